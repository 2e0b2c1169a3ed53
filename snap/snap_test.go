package snap_test

import (
	"math"
	"math/rand"
	"slices"
	"testing"

	"calamus/api"
	"calamus/cross"
	"calamus/pixel"
	"calamus/snap"
)

const most = api.MaxSub

func at(x, y int) api.Point { return api.Point{X: x, Y: y} }

func line(ax, ay, bx, by int) api.Line { return api.Line{A: at(ax, ay), B: at(bx, by)} }

func edge(ax, ay, bx, by, m, n int) api.Edge {
	return api.Edge{A: at(ax, ay), B: at(bx, by), M: [2]int{m, n}}
}

func less(p, q api.Point) bool { return p.X < q.X || p.X == q.X && p.Y < q.Y }

func order(p, q api.Point) int {
	if less(p, q) {
		return -1
	}
	if less(q, p) {
		return 1
	}
	return 0
}

// chain is the pixels that a line hits, each put ahead of the first one that it passes later.
func chain(l api.Line, hot []api.Point) []api.Point {
	var c []api.Point
	for _, p := range hot {
		if !pixel.Hits(l, p) {
			continue
		}
		i := 0
		for i < len(c) && ahead(l, c[i], p) {
			i++
		}
		c = slices.Insert(c, i, p)
	}
	return c
}

// ahead says whether a line passes p ahead of q.
func ahead(l api.Line, p, q api.Point) bool {
	if p.X != q.X {
		return (p.X < q.X) == (l.B.X >= l.A.X)
	}
	return (p.Y < q.Y) == (l.B.Y >= l.A.Y)
}

// edges is the edges of two operands, as the chapter says.
func edges(a, b []api.Line) []api.Edge {
	hot, _ := pixel.Hot(append(slices.Clone(a), b...))
	m := map[[2]api.Point][2]int{}
	for k, lines := range [][]api.Line{a, b} {
		for _, l := range lines {
			c := chain(l, hot)
			for i := 1; i < len(c); i++ {
				key, n := [2]api.Point{c[i-1], c[i]}, 1
				if less(c[i], c[i-1]) {
					key, n = [2]api.Point{c[i], c[i-1]}, -1
				}
				v := m[key]
				v[k] += n
				m[key] = v
			}
		}
	}
	var all []api.Edge
	for key, v := range m {
		if v != [2]int{} {
			all = append(all, api.Edge{A: key[0], B: key[1], M: v})
		}
	}
	slices.SortFunc(all, func(s, t api.Edge) int {
		if s.A != t.A {
			return order(s.A, t.A)
		}
		return order(s.B, t.B)
	})
	return all
}

func TestChain(t *testing.T) {
	hot := []api.Point{at(-3, 0), at(0, 0), at(0, 1), at(1, 0), at(1, 1), at(1, 2), at(2, 1), at(2, 2), at(9, 9)}
	for _, x := range []struct {
		l    api.Line
		hot  []api.Point
		want []api.Point
	}{
		{line(0, 0, 128, 128), hot, []api.Point{at(0, 0), at(1, 1), at(2, 2)}}, {line(128, 128, 0, 0), hot, []api.Point{at(2, 2), at(1, 1), at(0, 0)}}, {line(0, 0, 100, 32), hot, []api.Point{at(0, 0), at(1, 0), at(2, 1)}}, {line(64, 0, 64, 128), hot, []api.Point{at(1, 0), at(1, 1), at(1, 2)}}, {line(64, 128, 64, 0), hot, []api.Point{at(1, 2), at(1, 1), at(1, 0)}},
		{line(0, 70, 128, 70), hot, []api.Point{at(0, 1), at(1, 1), at(2, 1)}}, {line(128, 70, 0, 70), hot, []api.Point{at(2, 1), at(1, 1), at(0, 1)}}, {line(33, 128, 95, 0), hot, []api.Point{at(1, 2), at(1, 1), at(1, 0)}}, {line(95, 0, 33, 128), hot, []api.Point{at(1, 0), at(1, 1), at(1, 2)}}, {line(33, 0, 95, 128), hot, []api.Point{at(1, 0), at(1, 1), at(1, 2)}}, {line(95, 128, 33, 0), hot, []api.Point{at(1, 2), at(1, 1), at(1, 0)}},
		{line(5, 5, 5, 5), hot, []api.Point{at(0, 0)}}, {line(300, 0, 500, 0), hot, nil}, {line(0, 0, 128, 128), nil, nil}, {line(0, 0, most+1, 0), hot, nil}, {line(-most-1, 0, 0, 0), hot, nil}, {line(0, math.MinInt, 0, math.MaxInt), hot, nil}, {line(math.MinInt, 0, math.MaxInt, 0), hot, nil},
		{line(-most, 0, most, 0), []api.Point{at(-65537, 0), at(-65536, 0), at(65536, 0), at(65537, 0)}, []api.Point{at(-65536, 0), at(65536, 0)}},
	} {
		before := slices.Clone(x.hot)
		got := snap.Chain(x.l, x.hot)
		if !slices.Equal(got, x.want) {
			t.Errorf("Chain(%v) = %v, not %v", x.l, got, x.want)
		}
		for i := range got[:cap(got)] {
			got[:cap(got)][i] = at(77, 77)
		}
		if !slices.Equal(before, x.hot) {
			t.Error("the argument was changed, or shares memory")
		}
	}
	// Only that it ends is promised of pixels without order.
	r := rand.New(rand.NewSource(21))
	for range 300 {
		var l []api.Point
		for range r.Intn(9) {
			l = append(l, at(r.Intn(9)-4, r.Intn(9)-4))
		}
		snap.Chain(line(r.Intn(500)-250, r.Intn(500)-250, r.Intn(500)-250, r.Intn(500)-250), l)
	}
}

func TestChainAny(t *testing.T) {
	r := rand.New(rand.NewSource(22))
	for range 1000 {
		size := 1 + r.Intn(12)
		var hot []api.Point
		for x := -size; x <= size; x++ {
			for y := -size; y <= size; y++ {
				if r.Intn(3) > 0 {
					hot = append(hot, at(x, y))
				}
			}
		}
		n := func() int { return r.Intn(128*size+1) - 64*size }
		l := line(n(), n(), n(), n())
		if got, want := snap.Chain(l, hot), chain(l, hot); !slices.Equal(got, want) {
			t.Fatalf("Chain(%v, %v) = %v, not %v", l, hot, got, want)
		}
	}
}

func TestEdges(t *testing.T) {
	for _, x := range []struct {
		a, b []api.Line
		want []api.Edge
	}{
		{nil, nil, nil}, {[]api.Line{line(0, 0, 128, 128), line(0, 128, 128, 0)}, nil, []api.Edge{edge(0, 0, 1, 1, 1, 0), edge(0, 2, 1, 1, 1, 0), edge(1, 1, 2, 0, 1, 0), edge(1, 1, 2, 2, 1, 0)}}, {[]api.Line{line(0, 0, 128, 0)}, []api.Line{line(128, 0, 0, 0)}, []api.Edge{edge(0, 0, 2, 0, 1, -1)}},
		{[]api.Line{line(0, 0, 128, 0), line(128, 0, 0, 0)}, nil, nil}, {[]api.Line{line(0, 0, 128, 0), line(0, 5, 128, -5)}, []api.Line{line(0, 0, 64, 0)}, []api.Edge{edge(0, 0, 1, 0, 2, 1), edge(1, 0, 2, 0, 2, 0)}}, {[]api.Line{line(0, 0, 0, 128)}, []api.Line{line(0, 128, 0, 0), line(0, 128, 0, 0)}, []api.Edge{edge(0, 0, 0, 2, 1, -2)}},
		{[]api.Line{line(0, 0, 20, 20), line(5, 5, 5, 5)}, []api.Line{line(64, 64, 64, 64)}, nil}, {nil, []api.Line{line(128, 0, 0, 0)}, []api.Edge{edge(0, 0, 2, 0, 0, -1)}}, {[]api.Line{line(most, most, -most, -most)}, nil, []api.Edge{edge(-65536, -65536, 65536, 65536, -1, 0)}},
		// A line is drawn to a hot pixel that it only goes through.
		{[]api.Line{line(0, 0, 640, 128)}, []api.Line{line(320, 70, 320, 640)}, []api.Edge{edge(0, 0, 5, 1, 1, 0), edge(5, 1, 5, 10, 0, 1), edge(5, 1, 10, 2, 1, 0)}},
	} {
		before := append(slices.Clone(x.a), x.b...)
		got, e := snap.Edges(x.a, x.b)
		if e != api.OK || !slices.Equal(got, x.want) {
			t.Errorf("Edges(%v, %v) = %v %d", x.a, x.b, got, e)
		}
		if !slices.Equal(before, append(slices.Clone(x.a), x.b...)) {
			t.Error("an argument was changed")
		}
	}
}

func TestEdgesErrors(t *testing.T) {
	many := func(n int) []api.Line {
		var l []api.Line
		for i := range n {
			l = append(l, line(64*i, 0, 64*i, 640))
		}
		return l
	}
	bad := []api.Line{line(0, 0, 0, most+1)}
	for i, x := range []struct {
		a, b []api.Line
		n    int
		want api.Errno
	}{
		{many(4096), nil, 4096, api.OK}, {nil, many(4096), 4096, api.OK}, {many(2048), many(2048), 2048, api.OK}, {many(4097), nil, 0, api.ErrFull}, {many(2048), many(2049), 0, api.ErrFull}, {many(4096), bad, 0, api.ErrFull}, {many(4095), bad, 0, api.ErrRange}, {bad, many(3), 0, api.ErrRange}, {[]api.Line{line(-most-1, 0, 0, 0)}, nil, 0, api.ErrRange}, {nil, []api.Line{line(0, math.MinInt, math.MaxInt, 0)}, 0, api.ErrRange},
	} {
		if l, e := snap.Edges(x.a, x.b); len(l) != x.n || e != x.want {
			t.Errorf("row %d: %d edges %d, not %d %d", i, len(l), e, x.n, x.want)
		}
	}
}

// around is lines that go round through some points.
func around(p []api.Point) []api.Line {
	var l []api.Line
	for i := range p {
		l = append(l, api.Line{A: p[i], B: p[(i+1)%len(p)]})
	}
	return l
}

// change is lines with their points changed.
func change(l []api.Line, how func(l api.Line) api.Line) []api.Line {
	var c []api.Line
	for _, x := range l {
		c = append(c, how(x))
	}
	return c
}

func TestEdgesLaws(t *testing.T) {
	r := rand.New(rand.NewSource(23))
	for round := range 400 {
		size := 32 << r.Intn(8)
		grid := 1 + r.Intn(40)
		var o [2][]api.Line
		for k := range o {
			for range r.Intn(3) {
				var p []api.Point
				for range 1 + r.Intn(8) {
					p = append(p, at((r.Intn(2*size)-size)/grid*grid, (r.Intn(2*size)-size)/grid*grid))
				}
				o[k] = append(o[k], around(p)...)
			}
		}
		got, e := snap.Edges(o[0], o[1])
		if e != api.OK || !slices.Equal(got, edges(o[0], o[1])) {
			t.Fatalf("Edges(%v, %v) = %v %d", o[0], o[1], got, e)
		}
		balance := map[api.Point][2]int{}
		for i, x := range got {
			for _, end := range []api.Point{x.A, x.B} {
				sum, sign := balance[end], 1
				if end == x.B {
					sign = -1
				}
				balance[end] = [2]int{sum[0] + sign*x.M[0], sum[1] + sign*x.M[1]}
			}
			if round < 150 {
				apart(t, x, got[:i])
			}
		}
		for p, sum := range balance {
			if sum != [2]int{} {
				t.Fatalf("%v: at %v %v more edges leave than arrive", o, p, sum)
			}
		}
		laws(t, o[0], o[1], got)
	}
}

// apart checks that an edge has with others an end of both in common, if anything.
func apart(t *testing.T, x api.Edge, others []api.Edge) {
	t.Helper()
	for _, y := range others {
		c, _ := cross.Meet(api.Line{A: x.A, B: x.B}, api.Line{A: y.A, B: y.B})
		shared := x.A == y.A || x.A == y.B || x.B == y.A || x.B == y.B
		if c.Kind == 2 || (c.Kind == 1) != shared {
			t.Fatalf("the edges %v and %v have %v in common", x, y, c)
		}
	}
}

// laws checks edges against those of changed lines.
func laws(t *testing.T, a, b []api.Line, want []api.Edge) {
	t.Helper()
	other, _ := snap.Edges(b, a)
	back := func(l api.Line) api.Line { return api.Line{A: l.B, B: l.A} }
	reversed, _ := snap.Edges(change(a, back), change(b, back))
	move := func(l api.Line) api.Line {
		return line(l.A.X+64*1000, l.A.Y-64*777, l.B.X+64*1000, l.B.Y-64*777)
	}
	moved, _ := snap.Edges(change(a, move), change(b, move))
	if len(other) != len(want) || len(reversed) != len(want) || len(moved) != len(want) {
		t.Fatalf("%v and %v: another number of edges", a, b)
	}
	for i, x := range want {
		if other[i] != (api.Edge{A: x.A, B: x.B, M: [2]int{x.M[1], x.M[0]}}) || reversed[i] != (api.Edge{A: x.A, B: x.B, M: [2]int{-x.M[0], -x.M[1]}}) || moved[i] != edge(x.A.X+1000, x.A.Y-777, x.B.X+1000, x.B.Y-777, x.M[0], x.M[1]) {
			t.Fatalf("%v and %v: the edge %v is %v, %v and %v", a, b, x, other[i], reversed[i], moved[i])
		}
	}
}

func TestEdgesMany(t *testing.T) {
	// So many hot pixels that a slip in looking them up would show.
	r := rand.New(rand.NewSource(24))
	for _, size := range []int{900, 20000, most} {
		var p []api.Point
		for range 150 {
			p = append(p, at(r.Intn(2*size)-size, r.Intn(2*size)-size))
		}
		l := around(p)
		got, e := snap.Edges(l[:70], l[70:])
		if e != api.OK || !slices.Equal(got, edges(l[:70], l[70:])) {
			t.Errorf("lines within %d: %d edges %d", size, len(got), e)
		}
	}
}

func TestEdgesSpareRoom(t *testing.T) {
	// What lies behind an argument, in its spare room, is not written to.
	all := []api.Line{line(0, 0, 640, 640), line(0, 640, 640, 0), line(1, 2, 3, 4), line(5, 6, 7, 8)}
	before := slices.Clone(all)
	b := []api.Line{line(0, 320, 640, 320)}
	got, e := snap.Edges(all[:2], b)
	if e != api.OK || !slices.Equal(got, edges(before[:2], b)) || !slices.Equal(all, before) {
		t.Error(got, e, all)
	}
}
