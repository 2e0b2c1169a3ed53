package flat_test

import (
	"math"
	"math/rand"
	"slices"
	"testing"

	"calamus/api"
	"calamus/flat"
	"calamus/outline"
	"calamus/quad"
)

const most = api.MaxSub

func at(x, y int) api.Point { return api.Point{X: x, Y: y} }

func line(ax, ay, bx, by int) api.Line { return api.Line{A: at(ax, ay), B: at(bx, by)} }

func straight(ax, ay, bx, by int) api.Seg { return api.Seg{A: at(ax, ay), B: at(bx, by)} }

func curve(ax, ay, cx, cy, bx, by int) api.Seg {
	return api.Seg{A: at(ax, ay), C: at(cx, cy), B: at(bx, by), Curve: true}
}

// knots is a contour: x, y, and 1 if on the curve.
func knots(n ...int) api.Contour {
	c := make(api.Contour, 0, len(n))
	for i := 0; i < len(n); i += 3 {
		c = append(c, api.Knot{X: n[i], Y: n[i+1], On: n[i+2] == 1})
	}
	return c
}

func TestPiece(t *testing.T) {
	for _, x := range []struct {
		s    api.Seg
		want []api.Point
	}{
		{curve(0, 0, 1000, 0, 1000, 1000), []api.Point{at(0, 0), at(438, 63), at(750, 250), at(938, 563), at(1000, 1000)}}, {straight(0, 0, 9999, -5), []api.Point{at(0, 0), at(9999, -5)}}, {straight(5, 5, 5, 5), []api.Point{at(5, 5)}}, {curve(5, 5, 5, 5, 5, 5), []api.Point{at(5, 5)}}, {curve(0, 0, 64, 0, 64, 64), []api.Point{at(0, 0), at(64, 64)}}, {curve(0, 0, 64, 0, 64, 65), []api.Point{at(0, 0), at(48, 16), at(64, 65)}}, {curve(0, 0, 9, 9, 0, 0), []api.Point{at(0, 0)}},
		// A way that goes and comes back; one whose points are not far from one another.
		{curve(0, 0, 200, 0, 0, 0), []api.Point{at(0, 0), at(75, 0), at(100, 0), at(75, 0), at(0, 0)}}, {curve(0, 0, 33, 0, 0, 0), []api.Point{at(0, 0), at(17, 0), at(0, 0)}}, {curve(0, 0, 0, 0, 65, 0), []api.Point{at(0, 0), at(16, 0), at(65, 0)}},
		{api.Seg{A: at(1, 1), B: at(2, 2), C: at(9999, 9999)}, []api.Point{at(1, 1), at(2, 2)}},
	} {
		if l, e := flat.Piece(x.s); e != api.OK || !slices.Equal(l, x.want) {
			t.Errorf("Piece(%v) = %v %d", x.s, l, e)
		}
	}
	for _, p := range []api.Point{at(most+1, 0), at(0, -most-1), at(math.MinInt, 0), at(0, math.MaxInt)} {
		for _, s := range []api.Seg{{A: p}, {B: p}, {A: p, Curve: true}, {B: p, Curve: true}, {C: p, Curve: true}} {
			if l, e := flat.Piece(s); len(l) != 0 || e != api.ErrRange {
				t.Errorf("Piece(%v) = %v %d", s, l, e)
			}
		}
		if l, e := flat.Piece(api.Seg{C: p, B: at(1, 1)}); e != api.OK || !slices.Equal(l, []api.Point{at(0, 0), at(1, 1)}) {
			t.Errorf("a straight piece has no control point: %v %d", l, e)
		}
	}
}

// points are the points of a piece, one by one as the chapter says.
func points(s api.Seg) []api.Point {
	n := quad.Steps(s)
	var l []api.Point
	for k := range 1<<n + 1 {
		p, _ := quad.Round(s, k, n)
		l = append(l, p)
	}
	return slices.Compact(l)
}

func TestPieceAny(t *testing.T) {
	r := rand.New(rand.NewSource(14))
	for range 300 {
		size := 1 << r.Intn(23)
		n := func() int { return r.Intn(2*size+1) - size }
		for _, s := range []api.Seg{curve(n(), n(), n(), n(), n(), n()), straight(n(), n(), n(), n())} {
			l, e := flat.Piece(s)
			if e != api.OK || !slices.Equal(l, points(s)) {
				t.Fatalf("Piece(%v) = %v %d", s, l, e)
			}
		}
	}
}

// bends is a contour of one curve that has so many lines, each to another point.
func bends(steps int) api.Contour { return knots(0, 0, 1, 20<<(2*steps), 0, 0, 0, 0, 1) }

func TestLines(t *testing.T) {
	square := knots(0, 0, 1, 64, 0, 1, 64, 64, 1, 0, 64, 1)
	if l, e := flat.Lines(api.Outline{square}); e != api.OK || !slices.Equal(l, []api.Line{line(0, 0, 64, 0), line(64, 0, 64, 64), line(64, 64, 0, 64), line(0, 64, 0, 0)}) {
		t.Error(l, e)
	}
	for _, x := range []struct {
		o    api.Outline
		want []api.Line
	}{
		{nil, nil}, {api.Outline{nil, {}}, nil}, {api.Outline{knots(1, 1, 1)}, nil}, {api.Outline{knots(1, 1, 0)}, nil}, {api.Outline{knots(1, 1, 1, 2, 2, 0)}, nil}, {api.Outline{knots(1, 1, 1, 9, 1, 1)}, []api.Line{line(1, 1, 9, 1), line(9, 1, 1, 1)}},
		{api.Outline{knots(0, 0, 1, 1000, 0, 0, 1000, 1000, 1), nil, knots(5, 5, 1, 6, 7, 1)}, []api.Line{line(0, 0, 438, 63), line(438, 63, 750, 250), line(750, 250, 938, 563), line(938, 563, 1000, 1000), line(1000, 1000, 0, 0), line(5, 5, 6, 7), line(6, 7, 5, 5)}},
		{api.Outline{knots(most, most, 1, -most, -most, 1)}, []api.Line{line(most, most, -most, -most), line(-most, -most, most, most)}},
	} {
		if l, e := flat.Lines(x.o); e != api.OK || !slices.Equal(l, x.want) {
			t.Errorf("Lines(%v) = %v %d", x.o, l, e)
		}
	}
}

func TestLinesErrors(t *testing.T) {
	dots := func(n int) api.Contour { return slices.Repeat(knots(1, 1, 1), n) }
	zigzag := func(n int) api.Contour {
		var c api.Contour
		for i := range n {
			c = append(c, api.Knot{X: i % 2 * 100, Y: i, On: true})
		}
		return c
	}
	far := knots(most+1, 0, 1)
	// Curves of 512 lines each: eight are as many as may be.
	wide := knots(-most, 0, 1, most, 0, 0, -most, 0, 1)
	for i, x := range []struct {
		o    api.Outline
		n    int
		want api.Errno
	}{
		{api.Outline{dots(4096)}, 0, api.OK}, {api.Outline{dots(4097)}, 0, api.ErrFull}, {api.Outline{dots(4000), dots(97)}, 0, api.ErrFull}, {api.Outline{dots(4096), far}, 0, api.ErrFull}, {api.Outline{zigzag(4096)}, 4096, api.OK}, {api.Outline{zigzag(4097)}, 0, api.ErrFull},
		{api.Outline{far}, 0, api.ErrRange}, {api.Outline{dots(3), knots(0, 0, 1, 0, -most-1, 0)}, 0, api.ErrRange}, {api.Outline{knots(0, math.MinInt, 1)}, 0, api.ErrRange}, {api.Outline{knots(0, 0, 0, math.MaxInt, 0, 0)}, 0, api.ErrRange}, {api.Outline{nil, knots(-most-1, 0, 0)}, 0, api.ErrRange}, {api.Outline{knots(0, most+1, 1)}, 0, api.ErrRange},
		{slices.Repeat(api.Outline{wide}, 8), 4096, api.OK}, {slices.Repeat(api.Outline{wide}, 9), 0, api.ErrFull}, {append(slices.Repeat(api.Outline{wide}, 8), knots(0, 0, 1, 1, 1, 1)), 0, api.ErrFull}, {append(slices.Repeat(api.Outline{wide}, 8), dots(9)), 4096, api.OK}, {append(slices.Repeat(api.Outline{wide}, 9), far), 0, api.ErrRange}, {slices.Repeat(api.Outline{wide}, 1365), 0, api.ErrFull},
		{append(slices.Repeat(api.Outline{wide}, 7), bends(8), bends(7), bends(6), bends(6)), 4096, api.OK}, {append(slices.Repeat(api.Outline{wide}, 7), bends(8), bends(7), bends(6), bends(7)), 0, api.ErrFull},
	} {
		l, e := flat.Lines(x.o)
		if len(l) != x.n || e != x.want {
			t.Errorf("row %d: %d lines %d, not %d %d", i, len(l), e, x.n, x.want)
		}
	}
}

func TestLinesLaws(t *testing.T) {
	r := rand.New(rand.NewSource(15))
	for range 200 {
		size := 1 << (1 + r.Intn(14))
		var o api.Outline
		for range r.Intn(4) {
			var c api.Contour
			for range r.Intn(7) {
				c = append(c, api.Knot{X: r.Intn(size) - size/2, Y: r.Intn(size) - size/3, On: r.Intn(2) == 0})
			}
			o = append(o, c)
		}
		before := outline.Flip(outline.Flip(o))
		l, e := flat.Lines(o)
		if e != api.OK || !flat.Closed(l) {
			t.Fatalf("%v: %d, or not closed", o, e)
		}
		if !slices.EqualFunc(o, before, func(a, b api.Contour) bool { return slices.Equal(a, b) }) {
			t.Fatal("the argument was changed")
		}
		var want []api.Line
		for _, c := range o {
			for _, s := range outline.Segs(c) {
				p := points(s)
				for i := 1; i < len(p); i++ {
					want = append(want, api.Line{A: p[i-1], B: p[i]})
				}
			}
		}
		if !slices.Equal(l, want) {
			t.Fatalf("%v: %v, not %v", o, l, want)
		}
		for _, x := range l {
			if x.A == x.B {
				t.Fatalf("%v: a line that is a point", o)
			}
		}
		back, _ := flat.Lines(outline.Flip(o))
		count := map[api.Line]int{}
		for _, x := range l {
			count[x]++
		}
		for _, x := range back {
			count[api.Line{A: x.B, B: x.A}]--
		}
		for x, n := range count {
			// A middle that is rounded is the same from both sides: so are all points.
			if n != 0 {
				t.Fatalf("%v: the other way, %v is there %d times less", o, x, n)
			}
		}
	}
}

func TestClosed(t *testing.T) {
	for _, x := range []struct {
		l    []api.Line
		want bool
	}{
		{nil, true}, {[]api.Line{line(0, 0, 1, 1)}, false}, {[]api.Line{line(1, 1, 1, 1)}, true}, {[]api.Line{line(0, 0, 1, 1), line(1, 1, 0, 0)}, true}, {[]api.Line{line(0, 0, 1, 1), line(0, 0, 1, 1)}, false}, {[]api.Line{line(0, 0, 1, 1), line(1, 1, 2, 0)}, false}, {[]api.Line{line(0, 0, 1, 1), line(1, 1, 2, 0), line(2, 0, 0, 0)}, true}, {[]api.Line{line(0, 0, 1, 1), line(2, 0, 0, 0), line(1, 1, 2, 0)}, true}, {[]api.Line{line(0, 0, 1, 2), line(2, 1, 0, 0)}, false}, {[]api.Line{line(math.MaxInt, 0, 0, math.MinInt), line(0, math.MinInt, math.MaxInt, 0)}, true}, {[]api.Line{line(0, 0, 5, 5), line(5, 5, 0, 0), line(7, 7, 7, 8)}, false},
	} {
		before := slices.Clone(x.l)
		if got := flat.Closed(x.l); got != x.want {
			t.Errorf("Closed(%v) = %v", x.l, got)
		}
		if !slices.Equal(before, x.l) {
			t.Error("the argument was changed")
		}
	}
}
