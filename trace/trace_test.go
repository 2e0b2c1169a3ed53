package trace_test

import (
	"math"
	"math/rand"
	"slices"
	"testing"

	"calamus/api"
	"calamus/pick"
	"calamus/snap"
	"calamus/trace"
	"calamus/wind"
)

func at(x, y int) api.Point { return api.Point{X: x, Y: y} }

func line(ax, ay, bx, by int) api.Line { return api.Line{A: at(ax, ay), B: at(bx, by)} }

// points are points, x and y in turn.
func points(n ...int) []api.Point {
	var l []api.Point
	for i := 0; i < len(n); i += 2 {
		l = append(l, at(n[i], n[i+1]))
	}
	return l
}

// around is lines that go round through some points.
func around(n ...int) []api.Line { return trace.Lines([][]api.Point{points(n...)}) }

func same(a, b [][]api.Point) bool {
	return slices.EqualFunc(a, b, func(a, b []api.Point) bool { return slices.Equal(a, b) })
}

func TestContours(t *testing.T) {
	for i, x := range []struct {
		l    []api.Line
		want [][]api.Point
	}{
		{nil, nil}, {[]api.Line{line(0, 0, 0, 4), line(0, 4, 4, 4), line(4, 4, 4, 0), line(4, 0, 2, 0), line(2, 0, 0, 0)}, [][]api.Point{points(0, 0, 0, 4, 4, 4, 4, 0)}}, {around(0, 0, 4, 0, 4, 4, 0, 4), [][]api.Point{points(0, 0, 4, 0, 4, 4, 0, 4)}},
		// Two squares that touch in a corner, with the inside to the right, and to the left.
		{slices.Concat(around(4, 4, 4, 8, 8, 8, 8, 4), around(0, 0, 0, 4, 4, 4, 4, 0)), [][]api.Point{points(0, 0, 0, 4, 4, 4, 4, 0), points(4, 4, 4, 8, 8, 8, 8, 4)}}, {slices.Concat(around(0, 0, 4, 0, 4, 4, 0, 4), around(4, 4, 8, 4, 8, 8, 4, 8)), [][]api.Point{points(0, 0, 4, 0, 4, 4, 8, 4, 8, 8, 4, 8, 4, 4, 0, 4)}},
		// A point in the middle of a side stays where others end as well.
		{slices.Concat(around(0, 0, 0, 2, 0, 4, 4, 4, 4, 0), around(0, 2, -2, 1, -2, 3)), [][]api.Point{points(-2, 1, -2, 3, 0, 2), points(0, 0, 0, 2, 0, 4, 4, 4, 4, 0)}},
		// Straight runs, there and back, and points that go when all of them are straight but the corners.
		{around(0, 0, 1, 1, 2, 2, 3, 3, 3, 1, 3, 0, 2, 0, 1, 0), [][]api.Point{points(0, 0, 3, 3, 3, 0)}}, {around(0, 0, 2, 0, 4, 0), [][]api.Point{points(0, 0, 4, 0)}}, {around(0, 0, 4, 0, 2, 0), [][]api.Point{points(0, 0, 4, 0)}}, {around(0, 0, 4, 0, 2, 0, 3, 1), [][]api.Point{points(0, 0, 4, 0, 2, 0, 3, 1)}},
		// Lines with one direction: the one whose end is the lesser point goes ahead; what leads straight back comes last.
		{slices.Concat(around(0, 0, 2, 0, 4, 3), around(0, 0, 4, 0, 5, -3)), [][]api.Point{points(0, 0, 2, 0, 4, 3), points(0, 0, 4, 0, 5, -3)}}, {slices.Concat(around(5, 0, 1, 0, 1, 3), around(5, 0, 3, 0, 3, -3)), nil}, {slices.Concat(around(0, 0, 4, 0, 2, 0, 5, 5), around(4, 0, 4, 5, 5, 0)), nil},
		{slices.Concat(around(9, 9, 5, 5, 9, 1), around(5, 5, 3, 3, 1, 1, 8, 0)), nil},
	} {
		before := slices.Clone(x.l)
		got, e := trace.Contours(x.l)
		if want := contours(x.l); e != api.OK || !same(got, want) || x.want != nil && !same(got, x.want) {
			t.Errorf("row %d: %v %d, not %v, %v", i, got, e, x.want, want)
		}
		if !slices.Equal(before, x.l) {
			t.Errorf("row %d: the argument was changed", i)
		}
	}
}

func less(p, q api.Point) bool { return p.X < q.X || p.X == q.X && p.Y < q.Y }

func cross(u, v api.Point) int { return u.X*v.Y - u.Y*v.X }

func dot(u, v api.Point) int { return u.X*v.X + u.Y*v.Y }

func minus(p, q api.Point) api.Point { return at(p.X-q.X, p.Y-q.Y) }

// sector is where v lies counterclockwise from u: 0 ahead of half a turn, 1 at half a turn, 2 behind it, 3 at a full turn.
func sector(u, v api.Point) int {
	c := cross(u, v)
	switch {
	case c > 0:
		return 0
	case c < 0:
		return 2
	case dot(u, v) < 0:
		return 1
	}
	return 3
}

// sooner says whether line s comes ahead of line o as the successor of one that arrives from back.
func sooner(back api.Point, s, o api.Line) bool {
	u, v := minus(s.B, s.A), minus(o.B, o.A)
	if a, b := sector(back, u), sector(back, v); a != b {
		return a < b
	}
	if c := cross(u, v); c != 0 {
		return c > 0
	}
	return less(s.B, o.B)
}

// contours is what the chapter says, line by line.
func contours(l []api.Line) [][]api.Point {
	l = slices.Clone(l)
	slices.SortFunc(l, func(s, o api.Line) int {
		if less(s.A, o.A) || s.A == o.A && less(s.B, o.B) {
			return -1
		}
		return 1
	})
	used := make([]bool, len(l))
	var all [][]api.Point
	for first := range l {
		if used[first] {
			continue
		}
		var c []api.Point
		i := first
		for {
			used[i] = true
			c = append(c, l[i].A)
			best := -1
			for j := range l {
				if l[j].A == l[i].B && (!used[j] || j == first) && (best < 0 || sooner(minus(l[i].A, l[i].B), l[j], l[best])) {
					best = j
				}
			}
			if i = best; i == first {
				break
			}
		}
		var kept []api.Point
		for k, p := range c {
			from, to, n := c[(k+len(c)-1)%len(c)], c[(k+1)%len(c)], 0
			for _, x := range l {
				if x.A == p || x.B == p {
					n++
				}
			}
			if n != 2 || sector(minus(p, from), minus(to, p)) != 3 {
				kept = append(kept, p)
			}
		}
		all = append(all, kept)
	}
	return all
}

// area is twice the area that lines enclose.
func area(l []api.Line) int {
	n := 0
	for _, x := range l {
		n += cross(x.A, x.B)
	}
	return n
}

func TestContoursAny(t *testing.T) {
	r := rand.New(rand.NewSource(31))
	found := 0
	for range 6000 {
		size := 2 + r.Intn(6)
		var l []api.Line
		seen := map[[2]api.Point]bool{}
	next:
		for range 1 + r.Intn(6) {
			var n []int
			for range 3 + r.Intn(3) {
				n = append(n, r.Intn(size), r.Intn(size))
			}
			ring := around(n...)
			for i, x := range ring {
				for _, y := range ring[:i] {
					if x.A == y.A && x.B == y.B || x.A == y.B && x.B == y.A {
						continue next
					}
				}
				if x.A == x.B || seen[[2]api.Point{x.A, x.B}] || seen[[2]api.Point{x.B, x.A}] {
					continue next
				}
			}
			for _, x := range ring {
				seen[[2]api.Point{x.A, x.B}] = true
			}
			l = append(l, ring...)
		}
		r.Shuffle(len(l), func(i, j int) { l[i], l[j] = l[j], l[i] })
		got, e := trace.Contours(l)
		if want := contours(l); e != api.OK || !same(got, want) {
			t.Fatalf("Contours(%v) = %v %d, not %v", l, got, e, want)
		}
		lines := trace.Lines(got)
		if area(lines) != area(l) {
			t.Fatalf("Contours(%v) = %v: another area", l, got)
		}
		p := at(r.Intn(size+2)-1, r.Intn(size+2)-1)
		n, on, _ := wind.Lines(l, p)
		m, onNow, _ := wind.Lines(lines, p)
		if !on && !onNow && n != m {
			t.Fatalf("Contours(%v) = %v wind %d times about %v, not %d", l, got, m, p, n)
		}
		found += len(got)
	}
	if found < 6000 {
		t.Error("too few contours:", found)
	}
}

func TestContoursOfShapes(t *testing.T) {
	r := rand.New(rand.NewSource(32))
	for range 300 {
		var l []api.Line
		for range 1 + r.Intn(4) {
			var n []int
			for range 3 + r.Intn(4) {
				n = append(n, 64*r.Intn(12), 64*r.Intn(12))
			}
			l = append(l, around(n...)...)
		}
		edges, _ := snap.Edges(l, nil)
		ways, _ := pick.Ways(api.Union, edges)
		got, e := trace.Contours(ways)
		if e != api.OK || !same(got, contours(ways)) {
			t.Fatalf("Contours(%v) = %v %d", ways, got, e)
		}
		for _, c := range got {
			if len(c) < 3 {
				t.Fatalf("Contours(%v) = %v: too few points", ways, got)
			}
		}
		left := trace.Lines(got)
		for i, x := range left {
			if x.A == x.B {
				t.Fatalf("Contours(%v) = %v: a line that is a point", ways, got)
			}
			for _, y := range left[:i] {
				if x.A == y.A && x.B == y.B || x.A == y.B && x.B == y.A {
					t.Fatalf("Contours(%v) = %v: %v twice", ways, got, x)
				}
			}
		}
	}
}

func TestContoursErrors(t *testing.T) {
	triangle := around(0, 0, 4, 0, 0, 4)
	dots := func(n int) []api.Line { return slices.Repeat([]api.Line{line(1, 1, 1, 1)}, n) }
	far := func(p api.Point) []api.Line { return []api.Line{{A: p, B: at(0, 0)}, {A: at(0, 0), B: p}} }
	for i, x := range []struct {
		l    []api.Line
		want api.Errno
	}{
		{triangle, api.OK}, {dots(1), api.ErrForm}, {dots(65536), api.ErrForm}, {dots(65537), api.ErrFull}, {append(dots(65536), far(at(65537, 0))...), api.ErrFull}, {append(dots(2), far(at(65537, 0))...), api.ErrRange},
		{far(at(65537, 0)), api.ErrRange}, {far(at(0, 65537)), api.ErrRange}, {far(at(-65537, 0)), api.ErrRange}, {far(at(0, -65537)), api.ErrRange}, {far(at(math.MaxInt, math.MinInt)), api.ErrRange}, {[]api.Line{{A: at(0, 0), B: at(65537, 0)}}, api.ErrRange}, {around(-65536, -65536, 65536, -65536, 65536, 65536, -65536, 65536), api.OK},
		{triangle[:2], api.ErrForm}, {append(slices.Clone(triangle), triangle...), api.ErrForm}, {append(slices.Clone(triangle), around(4, 0, 0, 0, 0, -4)...), api.ErrForm}, {around(0, 0, 4, 0), api.ErrForm}, {[]api.Line{line(0, 0, 4, 0), line(0, 0, 0, 4), line(4, 0, 0, 4)}, api.ErrForm}, {append(slices.Clone(triangle), line(9, 9, 9, 9)), api.ErrForm}, {append(slices.Clone(triangle), line(0, 0, 9, 9)), api.ErrForm}, {append(slices.Clone(triangle), line(0, 0, 9, 9), line(9, 9, 0, 0)), api.ErrForm},
	} {
		got, e := trace.Contours(x.l)
		if e != x.want || (len(got) == 0) != (e != api.OK) {
			t.Errorf("row %d: %v %d, not %d", i, got, e, x.want)
		}
	}
}

func TestContoursMany(t *testing.T) {
	// As many lines as may be: triangles about one point, which all start and end there.
	var l []api.Line
	for i := range 21845 {
		l = append(l, around(0, 0, 2*i+1, 60000, 2*i+2, 60000)...)
	}
	l = append(l[1:], l[0])
	got, e := trace.Contours(l)
	if e != api.OK || len(got) != 21845 {
		t.Fatal(len(got), e)
	}
	for i, c := range got {
		if want := points(0, 0, 2*i+1, 60000, 2*i+2, 60000); !slices.Equal(c, want) {
			t.Fatalf("contour %d is %v", i, c)
		}
	}
}

func TestContoursApart(t *testing.T) {
	l := slices.Concat(around(0, 0, 4, 0, 0, 4), around(9, 9, 9, 12, 12, 9))
	got, _ := trace.Contours(l)
	got[0] = append(got[0], at(77, 77))
	if !slices.Equal(got[1], points(9, 9, 9, 12, 12, 9)) {
		t.Error("contours share memory")
	}
}

func TestLines(t *testing.T) {
	for _, x := range []struct {
		c    [][]api.Point
		want []api.Line
	}{
		{nil, nil}, {[][]api.Point{nil, {}}, nil}, {[][]api.Point{points(3, 4)}, []api.Line{line(3, 4, 3, 4)}}, {[][]api.Point{points(3, 4, 5, 6)}, []api.Line{line(3, 4, 5, 6), line(5, 6, 3, 4)}}, {[][]api.Point{points(0, 0, 4, 0, 0, 4), nil, points(1, 1)}, []api.Line{line(0, 0, 4, 0), line(4, 0, 0, 4), line(0, 4, 0, 0), line(1, 1, 1, 1)}}, {[][]api.Point{points(math.MaxInt, math.MinInt, 0, 0)}, []api.Line{line(math.MaxInt, math.MinInt, 0, 0), line(0, 0, math.MaxInt, math.MinInt)}},
	} {
		if got := trace.Lines(x.c); !slices.Equal(got, x.want) {
			t.Errorf("Lines(%v) = %v", x.c, got)
		}
	}
	if trace.MaxWays != 65536 {
		t.Error(trace.MaxWays)
	}
}
