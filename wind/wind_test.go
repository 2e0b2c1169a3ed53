package wind_test

import (
	"math"
	"math/rand"
	"slices"
	"testing"

	"calamus/api"
	"calamus/cross"
	"calamus/snap"
	"calamus/wind"
)

const most = api.MaxSub

func at(x, y int) api.Point { return api.Point{X: x, Y: y} }

func line(ax, ay, bx, by int) api.Line { return api.Line{A: at(ax, ay), B: at(bx, by)} }

func edge(ax, ay, bx, by, m, n int) api.Edge {
	return api.Edge{A: at(ax, ay), B: at(bx, by), M: [2]int{m, n}}
}

// far are points out of range.
func far() []api.Point {
	return []api.Point{at(most+1, 0), at(0, most+1), at(-most-1, 0), at(0, -most-1), at(math.MaxInt, 5), at(5, math.MinInt)}
}

// around is lines that go round through some points.
func around(p ...api.Point) []api.Line {
	var l []api.Line
	for i := range p {
		l = append(l, api.Line{A: p[i], B: p[(i+1)%len(p)]})
	}
	return l
}

// square is the square from 0 0 to 4 4, counterclockwise, as edges of an operand.
func square(k int) []api.Edge {
	l := []api.Edge{edge(0, 0, 0, 4, 0, 0), edge(0, 0, 4, 0, 0, 0), edge(0, 4, 4, 4, 0, 0), edge(4, 0, 4, 4, 0, 0)}
	for i, m := range []int{-1, 1, -1, 1} {
		l[i].M[k] = m
	}
	return l
}

// crossings is the winding number that a line adds about p, as the chapter says; what it crosses the ray at is held against p in whole numbers.
func crossings(l api.Line, p api.Point) int {
	beyond := func(a, b api.Point) bool {
		// b is the upper end: p.X < a.X + (b.X-a.X)(p.Y-a.Y)/(b.Y-a.Y).
		return (p.X-a.X)*(b.Y-a.Y) < (b.X-a.X)*(p.Y-a.Y)
	}
	if l.A.Y <= p.Y && l.B.Y > p.Y && beyond(l.A, l.B) {
		return 1
	}
	if l.A.Y > p.Y && l.B.Y <= p.Y && beyond(l.B, l.A) {
		return -1
	}
	return 0
}

func TestLines(t *testing.T) {
	ring := around(at(0, 0), at(4, 0), at(4, 4), at(0, 4))
	eight := around(at(0, 0), at(4, 4), at(4, 0), at(0, 4))
	for _, x := range []struct {
		l  []api.Line
		p  api.Point
		n  int
		on bool
	}{
		{nil, at(0, 0), 0, false}, {ring, at(2, 2), 1, false}, {ring, at(4, 2), 0, true}, {ring, at(9, 2), 0, false}, {ring, at(-9, 2), 0, false}, {ring, at(0, 0), 0, true}, {ring, at(2, 4), 0, true}, {ring, at(2, 5), 0, false}, {ring, at(2, -1), 0, false}, {ring, at(-1, 0), 0, false}, {ring, at(-1, 4), 0, false}, {ring, at(5, 4), 0, false},
		{eight, at(1, 2), 1, false}, {eight, at(3, 2), -1, false}, {eight, at(2, 2), 0, true}, {eight, at(2, 1), 0, false}, {slices.Concat(ring, ring), at(2, 2), 2, false}, {slices.Concat(ring, ring), at(0, 2), 0, true},
		// Lines that aren't closed, and those that are points.
		{[]api.Line{line(5, 0, 5, 9)}, at(0, 0), 1, false}, {[]api.Line{line(5, 0, 5, 9)}, at(0, 9), 0, false}, {[]api.Line{line(5, 9, 5, 0)}, at(0, 0), -1, false}, {[]api.Line{line(5, 9, 5, 0)}, at(0, 9), 0, false}, {[]api.Line{line(5, 9, 5, 0)}, at(6, 3), 0, false}, {[]api.Line{line(5, 3, 9, 3)}, at(0, 3), 0, false}, {[]api.Line{line(5, 3, 9, 3)}, at(7, 3), 0, true}, {[]api.Line{line(5, 3, 5, 3)}, at(5, 3), 0, true}, {[]api.Line{line(5, 3, 5, 3)}, at(0, 3), 0, false}, {[]api.Line{line(0, 0, 10, 10)}, at(4, 5), 1, false}, {[]api.Line{line(0, 0, 10, 10)}, at(5, 4), 0, false}, {[]api.Line{line(0, 10, 10, 0)}, at(4, 5), -1, false}, {[]api.Line{line(0, 10, 10, 0)}, at(6, 5), 0, false},
		{around(at(-most, -most), at(most, -most), at(most, most), at(-most, most)), at(most-1, 1-most), 1, false}, {around(at(-most, -most), at(most, -most), at(most, most)), at(0, 1), 0, false}, {around(at(-most, -most), at(most, -most), at(most, most)), at(1, 0), 1, false},
	} {
		before := slices.Clone(x.l)
		if n, on, e := wind.Lines(x.l, x.p); n != x.n || on != x.on || e != api.OK {
			t.Errorf("Lines(%v, %v) = %d %v %d", x.l, x.p, n, on, e)
		}
		if !slices.Equal(before, x.l) {
			t.Error("the argument was changed")
		}
	}
	for _, p := range far() {
		for i, l := range [][]api.Line{{{A: p, B: at(1, 1)}}, {{A: at(1, 1), B: p}}, {line(0, 0, 9, 9), {A: p, B: p}}} {
			if n, on, e := wind.Lines(l, at(0, 0)); n != 0 || on || e != api.ErrRange {
				t.Errorf("row %d: %d %v %d", i, n, on, e)
			}
		}
		if n, on, e := wind.Lines(nil, p); n != 0 || on || e != api.ErrRange {
			t.Errorf("about %v: %d %v %d", p, n, on, e)
		}
	}
}

func TestLinesAny(t *testing.T) {
	r := rand.New(rand.NewSource(25))
	for range 4000 {
		size := 3 << r.Intn(20)
		n := func() int { return r.Intn(2*size+1) - size }
		var l []api.Line
		for range r.Intn(8) {
			l = append(l, line(n(), n(), n(), n()))
		}
		p := at(n(), n())
		want, wantOn := 0, false
		for _, x := range l {
			want += crossings(x, p)
			wantOn = wantOn || cross.On(p, x)
		}
		if wantOn {
			want = 0
		}
		if got, on, e := wind.Lines(l, p); got != want || on != wantOn || e != api.OK {
			t.Fatalf("Lines(%v, %v) = %d %v %d, not %d %v", l, p, got, on, e, want, wantOn)
		}
	}
}

func TestLinesLaws(t *testing.T) {
	r := rand.New(rand.NewSource(26))
	turn := func(p api.Point) api.Point { return at(-p.Y, p.X) }
	for range 1500 {
		var l, back, turned []api.Line
		for range 1 + r.Intn(3) {
			var p []api.Point
			for range 1 + r.Intn(6) {
				p = append(p, at(r.Intn(13)-6, r.Intn(13)-6))
			}
			l = append(l, around(p...)...)
		}
		for _, x := range l {
			back = append(back, api.Line{A: x.B, B: x.A})
			turned = append(turned, api.Line{A: turn(x.A), B: turn(x.B)})
		}
		p := at(r.Intn(15)-7, r.Intn(15)-7)
		n, on, _ := wind.Lines(l, p)
		m, onBack, _ := wind.Lines(back, p)
		k, onTurned, _ := wind.Lines(turned, turn(p))
		if n != -m || n != k || on != onBack || on != onTurned {
			t.Fatalf("%v about %v: %d %v, the other way %d %v, turned by a quarter %d %v", l, p, n, on, m, onBack, k, onTurned)
		}
		if n, on, _ := wind.Lines(l, at(-7, r.Intn(15)-7)); n != 0 || on {
			t.Fatalf("%v winds %d times about a point outside", l, n)
		}
	}
}

func TestAround(t *testing.T) {
	both := append(square(0), edge(10, 0, 10, 4, 5, 7))
	for _, x := range []struct {
		l  []api.Edge
		k  int
		p  api.Point
		n  int
		on bool
	}{
		{nil, 0, at(0, 0), 0, false}, {square(0), 0, at(128, 128), 1, false}, {square(0), 1, at(128, 128), 0, false}, {square(1), 1, at(128, 128), 1, false}, {square(0), 0, at(256, 128), 0, true}, {square(0), 1, at(256, 128), 0, true}, {square(0), 0, at(255, 128), 1, false}, {square(0), 0, at(257, 128), 0, false}, {square(0), 0, at(4, 2), 1, false}, {square(0), 0, at(1, 1), 1, false}, {square(0), 0, at(0, 0), 0, true}, {square(0), 0, at(-1, 128), 0, false},
		{both, 0, at(500, 100), 5, false}, {both, 1, at(500, 100), 7, false}, {both, 0, at(100, 100), 6, false}, {both, 1, at(100, 100), 7, false}, {both, 0, at(640, 100), 0, true}, {[]api.Edge{edge(3, 0, 3, 4, -2, 0)}, 0, at(0, 0), -2, false}, {[]api.Edge{edge(3, 4, 5, 0, 3, 0)}, 0, at(0, 0), -3, false}, {[]api.Edge{edge(0, 0, 0, 9, 0, 0)}, 0, at(0, 64), 0, true},
		{[]api.Edge{edge(65536, -65536, 65536, 65536, 1, 0)}, 0, at(-most, most-1), 1, false}, {[]api.Edge{edge(-65536, -65536, 65536, 65536, 1, 0)}, 0, at(most, most), 0, true},
	} {
		before := slices.Clone(x.l)
		if n, on, e := wind.Around(x.l, x.k, x.p); n != x.n || on != x.on || e != api.OK {
			t.Errorf("Around(%v, %d, %v) = %d %v %d", x.l, x.k, x.p, n, on, e)
		}
		if !slices.Equal(before, x.l) {
			t.Error("the argument was changed")
		}
	}
	bad := []api.Edge{edge(4, 0, 0, 0, 1, 0)}
	for i, x := range []struct {
		l    []api.Edge
		k    int
		p    api.Point
		want api.Errno
	}{
		{nil, 2, at(0, 0), api.ErrArg}, {nil, -1, at(0, 0), api.ErrArg}, {bad, 2, at(most+1, 0), api.ErrArg}, {nil, math.MaxInt, at(0, 0), api.ErrArg}, {bad, 0, at(0, 0), api.ErrForm}, {bad, 1, at(most+1, 0), api.ErrForm}, {append(square(0), bad...), 0, at(9, 9), api.ErrForm}, {square(0), 0, at(most+1, 0), api.ErrRange}, {square(0), 1, at(0, math.MinInt), api.ErrRange}, {nil, 0, at(0, -most-1), api.ErrRange},
	} {
		if n, on, e := wind.Around(x.l, x.k, x.p); n != 0 || on || e != x.want {
			t.Errorf("row %d: %d %v %d, not %d", i, n, on, e, x.want)
		}
	}
}

// edges are single edges, each valid or not.
func edges() []struct {
	x    api.Edge
	want bool
} {
	return []struct {
		x    api.Edge
		want bool
	}{
		{edge(0, 0, 0, 1, 0, 0), true}, {edge(0, 0, 1, -9, 0, 0), true}, {edge(0, 0, 0, 0, 0, 0), false}, {edge(0, 1, 0, 0, 0, 0), false}, {edge(1, 0, 0, 9, 0, 0), false}, {edge(-65536, -65536, 65536, 65536, 0, 0), true}, {edge(-65536, 65536, 65536, -65536, 0, 0), true}, {edge(-65537, 0, 0, 0, 0, 0), false}, {edge(0, -65537, 0, 0, 0, 0), false}, {edge(0, 0, 65537, 0, 0, 0), false}, {edge(0, 0, 0, 65537, 0, 0), false}, {edge(0, 65537, 1, 0, 0, 0), false}, {edge(0, 0, 1, -65537, 0, 0), false}, {edge(math.MinInt, 0, math.MaxInt, 0, 0, 0), false},
	}
}

func TestValid(t *testing.T) {
	for _, x := range edges() {
		want := api.ErrForm
		if x.want {
			want = api.OK
		}
		if n, _, e := wind.Around([]api.Edge{x.x}, 0, at(999, 999)); e != want || n != 0 {
			t.Errorf("Around of %v: %d %d", x.x, n, e)
		}
		if l, e := wind.Sides([]api.Edge{x.x}); e != want || (len(l) == 1) != x.want {
			t.Errorf("Sides of %v: %v %d", x.x, l, e)
		}
	}
}

func TestAroundAny(t *testing.T) {
	r := rand.New(rand.NewSource(27))
	for range 2000 {
		var l []api.Edge
		for range r.Intn(7) {
			x := edge(r.Intn(9)-4, r.Intn(9)-4, 4+r.Intn(3), r.Intn(9)-4, r.Intn(7)-3, r.Intn(7)-3)
			if x.A.X < x.B.X {
				l = append(l, x)
			}
		}
		p := at(r.Intn(700)-300, 32*(r.Intn(20)-10))
		for k := range 2 {
			want, wantOn := 0, false
			for _, x := range l {
				up := line(64*x.A.X, 64*x.A.Y, 64*x.B.X, 64*x.B.Y)
				want += x.M[k] * crossings(up, p)
				wantOn = wantOn || cross.On(p, up)
			}
			if wantOn {
				want = 0
			}
			if n, on, e := wind.Around(l, k, p); n != want || on != wantOn || e != api.OK {
				t.Fatalf("Around(%v, %d, %v) = %d %v %d, not %d %v", l, k, p, n, on, e, want, wantOn)
			}
		}
	}
}

// beside is the winding numbers about a point that lies a little beside the middle of edge i: to its left for side 1, and to its right for side -1.
func beside(l []api.Edge, i, side int) [2]int {
	const times = 1 << 14
	x := l[i]
	v := at(x.B.X-x.A.X, x.B.Y-x.A.Y)
	p := at(times/2*(x.A.X+x.B.X)-side*v.Y, times/2*(x.A.Y+x.B.Y)+side*v.X)
	var n [2]int
	for _, y := range l {
		c := crossings(line(times*y.A.X, times*y.A.Y, times*y.B.X, times*y.B.Y), p)
		n[0] += c * y.M[0]
		n[1] += c * y.M[1]
	}
	return n
}

// checkSides holds the sides of valid edges against those of their own middles.
func checkSides(t *testing.T, l []api.Edge) {
	t.Helper()
	before := slices.Clone(l)
	got, e := wind.Sides(l)
	if e != api.OK || len(got) != len(l) {
		t.Fatalf("Sides(%v) = %v %d", l, got, e)
	}
	for i, s := range got {
		if want := (api.Side{L: beside(l, i, 1), R: beside(l, i, -1)}); s != want {
			t.Fatalf("Sides(%v): edge %d has %v, not %v", l, i, s, want)
		}
		if s.L[0]-s.R[0] != l[i].M[0] || s.L[1]-s.R[1] != l[i].M[1] {
			t.Fatalf("Sides(%v): L minus R of edge %d is not M", l, i)
		}
	}
	if !slices.Equal(before, l) {
		t.Fatal("the argument was changed")
	}
}

func TestSidesOfSquare(t *testing.T) {
	in, out := [2]int{1, 0}, [2]int{}
	want := []api.Side{{L: out, R: in}, {L: in, R: out}, {L: out, R: in}, {L: in, R: out}}
	if got, e := wind.Sides(square(0)); e != api.OK || !slices.Equal(got, want) {
		t.Error(got, e)
	}
	if got, e := wind.Sides(nil); e != api.OK || len(got) != 0 {
		t.Error(got, e)
	}
	checkSides(t, square(1))
	// In any order.
	l := square(0)
	slices.Reverse(l)
	checkSides(t, l)
	// Far apart, and as long as may be.
	checkSides(t, []api.Edge{edge(-65536, -65536, -65536, 65536, -1, 2), edge(-65536, -65536, 65536, 65536, 1, -2), edge(-65536, 65536, 65536, 65536, -1, 2), edge(0, 0, 65536, 65535, 0, 0)}[:3])
	// Edges that stand for no line, inside and outside.
	checkSides(t, append(square(0), edge(1, 1, 2, 3, 0, 0), edge(2, 3, 3, 1, 0, 0), edge(5, 0, 5, 1, 0, 0), edge(0, 0, 3, 1, 0, 0), edge(4, 4, 5, 9, 0, 0)))
}

func TestSidesAny(t *testing.T) {
	r := rand.New(rand.NewSource(28))
	for range 1500 {
		size := 64 * (2 + r.Intn(9))
		var o [2][]api.Line
		for k := range o {
			for range r.Intn(4) {
				var p []api.Point
				for range 2 + r.Intn(5) {
					p = append(p, at(r.Intn(2*size)-size, r.Intn(2*size)-size))
				}
				o[k] = append(o[k], around(p...)...)
			}
		}
		l, _ := snap.Edges(o[0], o[1])
		r.Shuffle(len(l), func(i, j int) { l[i], l[j] = l[j], l[i] })
		checkSides(t, l)
	}
}

// right says whether edges are valid, have ends in common only, and are balanced.
func right(l []api.Edge) bool {
	var sum [2]map[api.Point]int
	sum[0], sum[1] = map[api.Point]int{}, map[api.Point]int{}
	for i, x := range l {
		for k := range sum {
			sum[k][x.A] += x.M[k]
			sum[k][x.B] -= x.M[k]
		}
		for _, y := range l[:i] {
			c, _ := cross.Meet(api.Line{A: x.A, B: x.B}, api.Line{A: y.A, B: y.B})
			if c.Kind == 2 || c.Kind == 1 && x.A != y.A && x.A != y.B && x.B != y.A && x.B != y.B {
				return false
			}
		}
	}
	for k := range sum {
		for _, n := range sum[k] {
			if n != 0 {
				return false
			}
		}
	}
	return true
}

func TestSidesVerdict(t *testing.T) {
	r := rand.New(rand.NewSource(29))
	valid := 0
	for range 30000 {
		size := 2 + r.Intn(7)
		var l []api.Edge
		for range 1 + r.Intn(7) {
			x := edge(r.Intn(size), r.Intn(size), r.Intn(size), r.Intn(size), 0, 0)
			if x.A.X > x.B.X || x.A.X == x.B.X && x.A.Y > x.B.Y {
				x.A, x.B = x.B, x.A
			}
			if x.A != x.B {
				l = append(l, x)
			}
		}
		got, e := wind.Sides(l)
		if right(l) {
			valid++
			checkSides(t, l)
		} else if len(got) != 0 || e != api.ErrForm {
			t.Fatalf("Sides(%v) = %v %d", l, got, e)
		}
	}
	if valid < 3000 || valid > 27000 {
		t.Errorf("%d of 30000 were valid", valid)
	}
}

func TestSidesErrors(t *testing.T) {
	changed := func(i int, how func(x *api.Edge)) []api.Edge {
		l := square(0)
		how(&l[i])
		return l
	}
	huge := func(m, n int) []api.Edge {
		return []api.Edge{edge(0, 0, 0, 4, m, 0), edge(0, 0, 4, 0, n, 0), edge(0, 4, 4, 0, m, 0)}
	}
	for i, x := range []struct {
		l    []api.Edge
		want bool
	}{
		{square(0)[:3], false}, {square(1)[1:], false}, {changed(0, func(x *api.Edge) { x.M[0] = 1 }), false}, {changed(2, func(x *api.Edge) { x.M[1] = 1 }), false}, {changed(3, func(x *api.Edge) { x.A, x.B = x.B, x.A }), false}, {append(square(0), square(0)...), false}, {append(square(0), edge(0, 0, 4, 4, 0, 0)), true}, {append(square(0), edge(0, 0, 4, 4, 1, 0)), false}, {append(square(0), edge(0, 0, 4, 4, 0, -1)), false}, {append(square(0), edge(0, 0, 5, 5, 0, 0)), false},
		{append(square(0), edge(0, 2, 2, 2, 0, 0)), false}, {append(square(0), edge(2, 2, 4, 2, 0, 0)), false}, {append(square(0), edge(2, 0, 2, 4, 0, 0)), false}, {append(square(0), edge(-1, 2, 5, 2, 0, 0)), false}, {append(square(0), edge(0, 1, 0, 3, 0, 0)), false}, {append(square(0), edge(0, 4, 0, 5, 0, 0)), true}, {append(square(0), edge(0, 3, 0, 5, 0, 0)), false}, {append(square(0), edge(1, 0, 2, 0, 0, 0)), false}, {append(square(0), edge(0, 0, 2, 0, 0, 0)), false}, {append(square(0), edge(2, 0, 4, 0, 0, 0)), false}, {append(square(0), edge(4, 0, 4, 2, 0, 0)), false}, {append(square(0), edge(4, 2, 4, 4, 0, 0)), false},
		{append(square(0), edge(1, 1, 3, 3, 0, 0), edge(1, 3, 3, 1, 0, 0)), false}, {append(square(0), edge(1, 1, 3, 3, 0, 0), edge(1, 2, 3, 1, 0, 0)), false}, {append(square(0), edge(1, 1, 2, 2, 0, 0), edge(1, 3, 2, 2, 0, 0), edge(2, 2, 3, 3, 0, 0)), true},
		{huge(math.MaxInt, -math.MaxInt), true}, {huge(math.MaxInt, math.MinInt), false},
		{[]api.Edge{edge(0, 0, 1, 0, 1<<32, 0), edge(0, 0, 0, 1, -1, 0), edge(0, 1, 1, 0, -1, 0)}, false},
	} {
		got, e := wind.Sides(x.l)
		if x.want && (e != api.OK || len(got) != len(x.l)) || !x.want && (e != api.ErrForm || len(got) != 0) {
			t.Errorf("row %d: %v %d", i, got, e)
		}
	}
}

func TestSidesMany(t *testing.T) {
	// A field of triangles, more than could be held against each other one by one.
	var l []api.Edge
	for x := range 100 {
		for y := range 100 {
			l = append(l, edge(4*x, 3*y, 4*x+3, 3*y, 1, 0), edge(4*x, 3*y, 4*x+1, 3*y+2, -1, 0), edge(4*x+1, 3*y+2, 4*x+3, 3*y, -1, 0))
		}
	}
	got, e := wind.Sides(l)
	if e != api.OK {
		t.Fatal(e)
	}
	for i, s := range got {
		in, out := s.L[0], s.R[0]
		if i%3 > 0 {
			in, out = out, in
		}
		if in != 1 || out != 0 {
			t.Fatalf("edge %d: %v", i, s)
		}
	}
	if got, e := wind.Sides(append(l, edge(201, 151, 201, 153, 0, 0))); e != api.ErrForm || len(got) != 0 {
		t.Error(len(got), e)
	}
}
