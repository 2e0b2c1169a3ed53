package stroke_test

import (
	"math"
	"math/big"
	"math/rand"
	"slices"
	"testing"

	"calamus/api"
	"calamus/arc"
	"calamus/flat"
	"calamus/gauss"
	"calamus/outline"
	"calamus/shape"
	"calamus/stroke"
	"calamus/wind"
)

const most = api.MaxSub

func at(x, y int) api.Point { return api.Point{X: x, Y: y} }

// knots is a contour: x, y, and 1 if on the curve.
func knots(n ...int) api.Contour {
	c := make(api.Contour, 0, len(n)/3)
	for i := 0; i < len(n); i += 3 {
		c = append(c, api.Knot{X: n[i], Y: n[i+1], On: n[i+2] == 1})
	}
	return c
}

// ring is a contour of knots on the curve.
func ring(n ...int) api.Contour {
	var c api.Contour
	for i := 0; i < len(n); i += 2 {
		c = append(c, api.Knot{X: n[i], Y: n[i+1], On: true})
	}
	return c
}

// points are points, x and y in turn.
func points(n ...int) []api.Point {
	var l []api.Point
	for i := 0; i < len(n); i += 2 {
		l = append(l, at(n[i], n[i+1]))
	}
	return l
}

// way is the lines through points.
func way(n ...int) []api.Line {
	var l []api.Line
	p := points(n...)
	for i := 1; i < len(p); i++ {
		l = append(l, api.Line{A: p[i-1], B: p[i]})
	}
	return l
}

func same(a, b [][]api.Point) bool {
	return slices.EqualFunc(a, b, func(a, b []api.Point) bool { return slices.Equal(a, b) })
}

func sameOutline(a, b api.Outline) bool {
	return slices.EqualFunc(a, b, func(a, b api.Contour) bool { return slices.Equal(a, b) })
}

// pen is an open pen.
func pen(half, join, limit, cap int) api.Pen {
	return api.Pen{Half: half, Join: join, Limit: limit, Cap: cap, Open: true}
}

// closed is the pen, not open.
func closed(p api.Pen) api.Pen {
	p.Open = false
	return p
}

// pens are pens, each valid or not.
func pens() map[api.Pen]bool {
	return map[api.Pen]bool{
		pen(1, 1, 1, 1): true, pen(api.MaxHalf, 3, 16, 3): true, pen(64, 2, 4, 2): true, closed(pen(64, 2, 4, 2)): true, {}: false,
		pen(0, 1, 1, 1): false, pen(-1, 1, 1, 1): false, pen(api.MaxHalf+1, 1, 1, 1): false, pen(math.MinInt, 1, 1, 1): false, pen(1, 0, 1, 1): false, pen(1, 4, 1, 1): false, pen(1, -1, 1, 1): false, pen(1, 1, 0, 1): false, pen(1, 1, 17, 1): false, pen(1, 3, 0, 1): false, pen(1, 1, math.MaxInt, 1): false, pen(1, 1, 1, 0): false, pen(1, 1, 1, 4): false, closed(pen(1, 1, 1, 0)): false, pen(1, 1, 1, -1): false,
	}
}

func TestRight(t *testing.T) {
	for p, want := range pens() {
		if got := stroke.Right(p); got != want {
			t.Errorf("Right(%v) = %v", p, got)
		}
		wantErr := api.ErrArg
		if want {
			wantErr = api.OK
		}
		if l, e := stroke.Pieces(nil, p); len(l) != 0 || e != wantErr {
			t.Errorf("Pieces with %v: %v %d", p, l, e)
		}
		if o, e := stroke.Of(nil, p); len(o) != 0 || e != wantErr {
			t.Errorf("Of with %v: %v %d", p, o, e)
		}
		if want {
			continue
		}
		if l, e := stroke.Pieces([]api.Line{{A: at(most+1, 0)}}, p); len(l) != 0 || e != api.ErrArg {
			t.Errorf("Pieces with %v: %v %d", p, l, e)
		}
		if o, e := stroke.Of(api.Outline{ring(most+1, 0)}, p); len(o) != 0 || e != api.ErrArg {
			t.Errorf("Of with %v: %v %d", p, o, e)
		}
	}
}

func TestPath(t *testing.T) {
	for i, x := range []struct {
		c    api.Contour
		open bool
		want []api.Line
		e    api.Errno
	}{
		{nil, false, nil, api.OK}, {nil, true, nil, api.OK}, {ring(5, 5), false, nil, api.OK}, {ring(5, 5), true, nil, api.OK}, {ring(0, 0, 9, 0), false, way(0, 0, 9, 0, 0, 0), api.OK}, {ring(0, 0, 9, 0), true, way(0, 0, 9, 0), api.OK}, {ring(0, 0, 9, 0, 9, 9), false, way(0, 0, 9, 0, 9, 9, 0, 0), api.OK}, {ring(0, 0, 9, 0, 9, 9), true, way(0, 0, 9, 0, 9, 9), api.OK},
		{knots(0, 0, 1, 1000, 0, 0, 1000, 1000, 1), false, way(0, 0, 438, 63, 750, 250, 938, 563, 1000, 1000, 0, 0), api.OK}, {knots(0, 0, 1, 1000, 0, 0, 1000, 1000, 1), true, way(0, 0, 438, 63, 750, 250, 938, 563, 1000, 1000), api.OK}, {knots(1000, 1000, 1, 0, 0, 1, 1000, 0, 0), true, way(1000, 1000, 0, 0), api.OK},
		// The last segment is what Segs tells last, though it be the only one, or a point.
		{knots(0, 0, 1, 1000, 0, 0), true, nil, api.OK}, {knots(0, 0, 1, 9, 0, 1, 5, 0, 0, 9, 0, 1), true, way(0, 0, 9, 0), api.OK}, {ring(0, 0, 9, 0, 9, 9, 0, 0), true, way(0, 0, 9, 0, 9, 9), api.OK},
		{ring(most, most, -most, -most), true, way(most, most, -most, -most), api.OK}, {ring(most+1, 0), false, nil, api.ErrRange}, {ring(0, 0, 5, -most-1), true, nil, api.ErrRange}, {knots(0, 0, 1, math.MinInt, 0, 0), true, nil, api.ErrRange}, {ring(0, 0, 0, math.MaxInt), false, nil, api.ErrRange}, {ring(0, most+1), true, nil, api.ErrRange}, {ring(-most-1, 0), false, nil, api.ErrRange}, {knots(0, -most-1, 0), true, nil, api.ErrRange},
	} {
		before := slices.Clone(x.c)
		if l, e := stroke.Path(x.c, x.open); !slices.Equal(l, x.want) || e != x.e {
			t.Errorf("row %d: %v %d", i, l, e)
		}
		if !slices.Equal(before, x.c) {
			t.Errorf("row %d: the argument was changed", i)
		}
	}
}

func TestPieces(t *testing.T) {
	disc := func(x, y, r int) []api.Point {
		l, _ := arc.Disc(at(x, y), r)
		return l
	}
	line, bend := way(0, 0, 640, 0), way(0, 0, 640, 0, 640, 640)
	first, second := points(0, -64, 640, -64, 640, 64, 0, 64), points(704, 0, 704, 640, 576, 640, 576, 0)
	for i, x := range []struct {
		path []api.Line
		pen  api.Pen
		want [][]api.Point
	}{
		{nil, pen(64, 3, 1, 3), nil}, {nil, closed(pen(64, 3, 1, 3)), nil},
		{line, pen(64, 1, 4, 1), [][]api.Point{first}}, {line, pen(64, 1, 4, 2), [][]api.Point{first, points(0, -64, 0, 64, -64, 64, -64, -64), points(640, 64, 640, -64, 704, -64, 704, 64)}}, {line, pen(64, 1, 4, 3), [][]api.Point{first, disc(0, 0, 64), disc(640, 0, 64)}},
		// A turn to the left, with each join; a body's corners; limits of the miter.
		{bend, pen(64, 3, 4, 1), [][]api.Point{first, disc(640, 0, 64), second}}, {bend, pen(64, 2, 4, 1), [][]api.Point{first, points(640, 0, 640, -64, 704, 0), second}}, {bend, pen(64, 1, 4, 1), [][]api.Point{first, points(640, 0, 640, -64, 704, -64, 704, 0), second}}, {bend, pen(64, 1, 2, 1), [][]api.Point{first, points(640, 0, 640, -64, 704, -64, 704, 0), second}}, {bend, pen(64, 1, 1, 1), [][]api.Point{first, points(640, 0, 640, -64, 704, 0), second}},
		// A turn to the right.
		{way(0, 0, 640, 0, 640, -640), pen(64, 1, 4, 1), [][]api.Point{first, points(640, 0, 704, 0, 704, 64, 640, 64), points(576, 0, 576, -640, 704, -640, 704, 0)}}, {way(0, 0, 640, 0, 640, -640), pen(64, 2, 4, 1), [][]api.Point{first, points(640, 0, 704, 0, 640, 64), points(576, 0, 576, -640, 704, -640, 704, 0)}},
		// Straight on, and straight back: a round only.
		{way(0, 0, 640, 0, 650, 0), pen(64, 1, 4, 1), [][]api.Point{first, points(640, -64, 650, -64, 650, 64, 640, 64)}}, {way(0, 0, 640, 0, 650, 0), pen(64, 2, 4, 1), [][]api.Point{first, points(640, -64, 650, -64, 650, 64, 640, 64)}}, {way(0, 0, 640, 0, 650, 0), pen(64, 3, 4, 1), [][]api.Point{first, disc(640, 0, 64), points(640, -64, 650, -64, 650, 64, 640, 64)}}, {way(0, 0, 640, 0, 0, 0), pen(64, 1, 16, 1), [][]api.Point{first, points(640, 64, 0, 64, 0, -64, 640, -64)}},
		// Closed: a join at the last end, and no caps.
		{way(0, 0, 640, 0, 0, 0), closed(pen(64, 3, 4, 3)), [][]api.Point{first, disc(640, 0, 64), points(640, 64, 0, 64, 0, -64, 640, -64), disc(0, 0, 64)}}, {way(0, 0, 640, 0, 640, 640, 0, 0), closed(pen(64, 2, 4, 2)), [][]api.Point{first, points(640, 0, 640, -64, 704, 0), second, points(640, 640, 704, 640, 595, 685), points(595, 685, -45, 45, 45, -45, 685, 595), points(0, 0, -45, 45, 0, -64)}},
		{way(0, 0, 640, 0, 640, 640, 0, 0), pen(64, 2, 4, 2), [][]api.Point{first, points(640, 0, 640, -64, 704, 0), second, points(640, 640, 704, 640, 595, 685), points(595, 685, -45, 45, 45, -45, 685, 595), points(0, -64, 0, 64, -64, 64, -64, -64), points(45, -45, -45, 45, -90, 0, 0, -90)}},
	} {
		before := slices.Clone(x.path)
		got, e := stroke.Pieces(x.path, x.pen)
		if e != api.OK || !same(got, x.want) {
			t.Errorf("row %d: %v %d, not %v", i, got, e, x.want)
		}
		if !slices.Equal(before, x.path) {
			t.Errorf("row %d: the argument was changed", i)
		}
		if len(got) > 1 {
			got[0] = append(got[0], at(77, 77))
			if !same(got[1:], x.want[1:]) {
				t.Errorf("row %d: pieces share memory", i)
			}
		}
	}
}

// pieces is the pieces that the chapter tells of, one sentence after the other.
func pieces(path []api.Line, p api.Pen) [][]api.Point {
	var all [][]api.Point
	put := func(l ...api.Point) { all = append(all, l) }
	add := func(v, w api.Point) api.Point { return at(v.X+w.X, v.Y+w.Y) }
	sub := func(v, w api.Point) api.Point { return at(v.X-w.X, v.Y-w.Y) }
	times := func(v, w api.Point) int { return v.X*w.Y - v.Y*w.X }
	round := func(v api.Point) {
		d, _ := arc.Disc(v, p.Half)
		put(d...)
	}
	// rounded is n divided by d, to the nearest integer, halves up.
	rounded := func(n, d int) int {
		sum := new(big.Int).Add(big.NewInt(int64(2*n)), big.NewInt(int64(d)))
		return int(sum.Div(sum, big.NewInt(int64(2*d))).Int64())
	}
	normal := func(l api.Line) api.Point {
		n, _ := arc.Normal(sub(l.B, l.A), p.Half)
		return n
	}
	for i, l := range path {
		n := normal(l)
		put(sub(l.A, n), sub(l.B, n), add(l.B, n), add(l.A, n))
		if i == len(path)-1 && p.Open {
			break
		}
		v, m := l.B, normal(path[(i+1)%len(path)])
		k := times(n, m)
		if p.Join == api.Round {
			round(v)
			continue
		}
		if k == 0 {
			continue
		}
		corners := []api.Point{v, sub(v, n), sub(v, m)}
		if k < 0 {
			corners = []api.Point{v, add(v, m), add(v, n)}
		}
		s := add(n, m)
		square := s.X*s.X + s.Y*s.Y
		if p.Join == api.Miter && square != 0 && 4*p.Half*p.Half <= p.Limit*p.Limit*square {
			t := at(rounded(s.X*2*p.Half*p.Half, square), rounded(s.Y*2*p.Half*p.Half, square))
			tip := add(v, t)
			if k > 0 {
				tip = sub(v, t)
			}
			if times(sub(corners[1], v), sub(tip, v)) > 0 && times(sub(tip, v), sub(corners[2], v)) > 0 {
				corners = []api.Point{corners[0], corners[1], tip, corners[2]}
			}
		}
		put(corners...)
	}
	if !p.Open || len(path) == 0 {
		return all
	}
	for i, l := range []api.Line{path[0], path[len(path)-1]} {
		n := normal(l)
		e := at(n.Y, -n.X)
		switch {
		case p.Cap == api.Round && i == 0:
			round(l.A)
		case p.Cap == api.Round:
			round(l.B)
		case p.Cap == api.Square && i == 0:
			put(sub(l.A, n), add(l.A, n), sub(add(l.A, n), e), sub(sub(l.A, n), e))
		case p.Cap == api.Square:
			put(add(l.B, n), sub(l.B, n), add(sub(l.B, n), e), add(add(l.B, n), e))
		}
	}
	return all
}

// anyPen is a pen.
func anyPen(r *rand.Rand, half int) api.Pen {
	return api.Pen{Half: 1 + r.Intn(half), Join: 1 + r.Intn(3), Limit: 1 + r.Intn(16), Cap: 1 + r.Intn(3), Open: r.Intn(2) == 0}
}

func TestPiecesAny(t *testing.T) {
	r := rand.New(rand.NewSource(37))
	for range 4000 {
		size := 4 << r.Intn(20)
		p := anyPen(r, min(1<<(1+r.Intn(18)), api.MaxHalf))
		var path []api.Line
		here := at(r.Intn(2*size)-size, r.Intn(2*size)-size)
		first := here
		for range r.Intn(6) {
			next := at(r.Intn(2*size)-size, r.Intn(2*size)-size)
			if next != here {
				path = append(path, api.Line{A: here, B: next})
				here = next
			}
		}
		if !p.Open && here != first {
			path = append(path, api.Line{A: here, B: first})
		}
		got, e := stroke.Pieces(path, p)
		if want := pieces(path, p); e != api.OK || !same(got, want) {
			t.Fatalf("Pieces(%v, %v) = %v %d, not %v", path, p, got, e, want)
		}
		if size > 1<<16 || p.Half > 1<<16 {
			continue
		}
		for _, piece := range got {
			ring := around(piece)
			for range 3 {
				v := at(piece[0].X+r.Intn(2*p.Half+1)-p.Half, piece[0].Y+r.Intn(2*p.Half+1)-p.Half)
				if n, _, e := wind.Lines(ring, v); n != 0 && n != 1 || e != api.OK {
					t.Fatalf("Pieces(%v, %v): %v winds %d times about %v", path, p, piece, n, v)
				}
			}
			if area, _ := gauss.Area(piece); area < 0 {
				t.Fatalf("Pieces(%v, %v): %v is not counterclockwise", path, p, piece)
			}
		}
	}
}

func TestPiecesErrors(t *testing.T) {
	open, shut := pen(64, 3, 4, 3), closed(pen(64, 3, 4, 3))
	far := []api.Line{{A: at(0, 0), B: at(most+1, 0)}}
	for i, x := range []struct {
		path []api.Line
		pen  api.Pen
		want api.Errno
	}{
		{way(0, 0, 5, 5), open, api.OK}, {way(0, 0, 5, 5), shut, api.ErrForm}, {way(0, 0, 5, 5, 0, 0), shut, api.OK}, {way(0, 0, 5, 5, 5, 6), shut, api.ErrForm}, {way(0, 0, 0, 0), open, api.ErrForm}, {way(0, 0, 0, 0), shut, api.ErrForm}, {way(0, 0, 5, 5, 5, 5, 0, 0), open, api.ErrForm}, {append(way(0, 0, 5, 5), way(5, 6, 0, 0)...), open, api.ErrForm}, {append(way(0, 0, 5, 5), way(5, 6, 0, 0)...), shut, api.ErrForm}, {append(way(0, 0, 5, 5), way(6, 5, 0, 0)...), open, api.ErrForm},
		{far, open, api.ErrRange}, {append(way(0, 0, 0, 0), far...), open, api.ErrRange}, {[]api.Line{{A: at(0, -most-1), B: at(0, 0)}}, open, api.ErrRange}, {[]api.Line{{A: at(0, math.MinInt), B: at(math.MaxInt, 0)}}, shut, api.ErrRange}, {way(-most, -most, most, most), open, api.OK},
	} {
		if got, e := stroke.Pieces(x.path, x.pen); e != x.want || (len(got) == 0) != (e != api.OK) {
			t.Errorf("row %d: %v %d", i, got, e)
		}
	}
}

// around is the lines around a polygon.
func around(p []api.Point) []api.Line {
	var l []api.Line
	for i := range p {
		if q := p[(i+1)%len(p)]; q != p[i] {
			l = append(l, api.Line{A: p[i], B: q})
		}
	}
	return l
}

func TestOfExamples(t *testing.T) {
	line := api.Outline{ring(0, 0, 640, 0)}
	for i, x := range []struct {
		o    api.Outline
		pen  api.Pen
		want api.Outline
	}{
		{line, pen(64, 1, 4, 2), api.Outline{ring(-1, -1, -1, 1, 11, 1, 11, -1)}}, {line, pen(64, 1, 4, 1), api.Outline{ring(0, -1, 0, 1, 10, 1, 10, -1)}}, {api.Outline{ring(640, 640)}, pen(64, 3, 4, 3), nil}, {api.Outline{nil, ring(5, 5, 5, 5)}, closed(pen(64, 3, 4, 3)), nil}, {line, closed(pen(64, 1, 4, 2)), api.Outline{ring(0, -1, 0, 1, 10, 1, 10, -1)}},
		{api.Outline{ring(0, 0, 640, 0, 640, 640, 0, 640)}, closed(pen(64, 1, 4, 1)), api.Outline{ring(-1, -1, -1, 11, 11, 11, 11, -1), ring(1, 1, 9, 1, 9, 9, 1, 9)}}, {api.Outline{ring(0, 0, 640, 0, 640, 640, 0, 640)}, pen(64, 1, 4, 1), api.Outline{ring(0, -1, 0, 1, 9, 1, 9, 9, 0, 9, 0, 11, 11, 11, 11, -1)}},
		{append(line, ring(0, 64, 640, 64)), pen(64, 2, 1, 1), api.Outline{ring(0, -1, 0, 2, 10, 2, 10, -1)}}, {append(line, ring(320, -640, 320, 640)), pen(64, 2, 1, 1), api.Outline{ring(0, -1, 0, 1, 4, 1, 4, 10, 6, 10, 6, 1, 10, 1, 10, -1, 6, -1, 6, -10, 4, -10, 4, -1)}},
	} {
		before := slices.Clone(x.o)
		if got, e := stroke.Of(x.o, x.pen); e != api.OK || !sameOutline(got, x.want) {
			t.Errorf("row %d: %v %d", i, got, e)
		}
		if !sameOutline(before, x.o) {
			t.Errorf("row %d: the argument was changed", i)
		}
	}
}

func TestOfErrors(t *testing.T) {
	// n knots that go to and fro, as n lines when closed and one less when open.
	zigzag := func(n int) api.Contour {
		var c api.Contour
		for i := range n {
			c = append(c, api.Knot{X: i % 2 * 64, Y: 64 * i, On: true})
		}
		return c
	}
	far := ring(most+1, 0)
	butt := pen(64, 2, 1, 1)
	short := slices.Repeat(api.Outline{ring(0, 0, 64, 0)}, 1024)
	wide := knots(-most, 0, 1, most, 0, 0, -most, 0, 1)
	for i, x := range []struct {
		o    api.Outline
		pen  api.Pen
		want api.Errno
	}{
		{short, butt, api.OK}, {append(short[:1024:1024], ring(0, 0, 64, 0)), butt, api.ErrFull}, {append(short[:1024:1024], ring(9, 9)), butt, api.OK}, {append(short[:1024:1024], far), butt, api.ErrRange}, {append(short[:1024:1024], ring(0, 0, 64, 0), far), butt, api.ErrFull}, {api.Outline{far}, butt, api.ErrRange}, {api.Outline{ring(0, 0, 0, -most-1)}, butt, api.ErrRange},
		// Bodies and bevels are 7 corners a line; the last one of an open path has 4.
		{api.Outline{zigzag(586)}, butt, api.OK}, {api.Outline{zigzag(587)}, butt, api.ErrFull}, {api.Outline{zigzag(587), far}, butt, api.ErrFull}, {api.Outline{zigzag(586), far}, butt, api.ErrRange}, {api.Outline{zigzag(586), ring(0, 0, 9, 9)}, butt, api.OK}, {api.Outline{zigzag(586), ring(0, 0, 9, 9, 9, 0)}, butt, api.ErrFull}, {api.Outline{zigzag(1100)}, butt, api.ErrFull}, {api.Outline{wide}, closed(pen(64, 3, 1, 1)), api.ErrFull}, {api.Outline{wide}, pen(64, 3, 1, 1), api.OK},
		// Discs of 8 corners: 12 a line and 16 for the caps.
		{api.Outline{zigzag(341)}, pen(64, 3, 1, 3), api.OK}, {api.Outline{zigzag(342)}, pen(64, 3, 1, 3), api.ErrFull},
		// Corners out of range; corners that a glyph has no room for.
		{api.Outline{ring(most, 0, 0, 0)}, pen(64, 1, 1, 2), api.ErrRange}, {api.Outline{ring(32767*64, 0, 0, 0)}, pen(64, 1, 1, 1), api.OK}, {api.Outline{ring(32767*64, 0, 0, 0)}, pen(64, 1, 1, 2), api.ErrRange}, {api.Outline{ring(0, -32768*64, 0, 0)}, pen(64, 1, 1, 1), api.OK}, {api.Outline{ring(0, -32768*64, 0, 0)}, pen(64, 1, 1, 3), api.ErrRange},
	} {
		got, e := stroke.Of(x.o, x.pen)
		if e != x.want || e != api.OK && len(got) != 0 {
			t.Errorf("row %d: %d contours %d, not %d", i, len(got), e, x.want)
		}
	}
}

// anyOutline is an outline of lines and curves, in subunits.
func anyOutline(r *rand.Rand, size int) api.Outline {
	var o api.Outline
	for range 1 + r.Intn(2) {
		var c api.Contour
		for range 1 + r.Intn(4) {
			c = append(c, api.Knot{X: r.Intn(2*size) - size, Y: r.Intn(2*size) - size, On: r.Intn(5) > 1})
		}
		o = append(o, c)
	}
	return o
}

// distances is how far a point is from lines at least, and from those of them alone whose feet lie far enough from their ends.
func distances(l []api.Line, p api.Point, enough float64) (any, foot float64) {
	any, foot = math.Inf(1), math.Inf(1)
	for _, x := range l {
		dx, dy := float64(x.B.X-x.A.X), float64(x.B.Y-x.A.Y)
		px, py := float64(p.X-x.A.X), float64(p.Y-x.A.Y)
		length := math.Hypot(dx, dy)
		along := (px*dx + py*dy) / length
		off := math.Abs(px*dy-py*dx) / length
		if along >= enough && along <= length-enough {
			foot = min(foot, off)
		}
		if along < 0 {
			off = math.Hypot(px, py)
		} else if along > length {
			off = math.Hypot(px-dx, py-dy)
		}
		any = min(any, off)
	}
	return any, foot
}

func TestPointsOfPen(t *testing.T) {
	r := rand.New(rand.NewSource(38))
	inside, outside := 0, 0
	for range 250 {
		size := 64 * (5 + r.Intn(100))
		o, p := anyOutline(r, size), anyPen(r, 64*40)
		p.Half += 192
		if r.Intn(2) == 0 {
			p.Join, p.Cap = api.Round, api.Round
		}
		got, e := stroke.Of(o, p)
		if e != api.OK || !shape.Clean(got) {
			t.Fatalf("Of(%v, %v) = %v %d", o, p, got, e)
		}
		lifted, _ := outline.Lift(got)
		lines, _ := flat.Lines(lifted)
		var paths, all []api.Line
		for _, c := range o {
			path, _ := stroke.Path(c, p.Open)
			paths = append(paths, path...)
			corners, _ := stroke.Pieces(path, p)
			for _, piece := range corners {
				all = append(all, around(piece)...)
			}
		}
		if want, _ := shape.Of(api.Union, all, nil); !sameOutline(got, want) {
			t.Fatalf("Of(%v, %v) = %v, not %v", o, p, got, want)
		}
		round := p.Join == api.Round && (p.Cap == api.Round || !p.Open)
		for range 60 {
			v := at(r.Intn(4*size)-2*size, r.Intn(4*size)-2*size)
			near, foot := distances(paths, v, 192)
			half := float64(p.Half)
			n, on, _ := wind.Lines(lines, v)
			in := n == -1 && !on
			switch {
			case round && near <= half-192, foot <= half-192:
				inside++
				if !in {
					t.Fatalf("Of(%v, %v): %v, %v and %v from the path, is not inside", o, p, v, near, foot)
				}
			case round && near >= half+192, p.Limit >= 2 && near >= half*float64(p.Limit)+192:
				outside++
				if n != 0 || on {
					t.Fatalf("Of(%v, %v): %v, %v from the path, is inside", o, p, v, near)
				}
			}
		}
	}
	if inside < 500 || outside < 500 {
		t.Error("too few points:", inside, outside)
	}
}
