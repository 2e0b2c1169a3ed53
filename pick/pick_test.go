package pick_test

import (
	"math"
	"math/rand"
	"slices"
	"testing"

	"calamus/api"
	"calamus/pick"
	"calamus/snap"
	"calamus/wind"
)

func at(x, y int) api.Point { return api.Point{X: x, Y: y} }

func line(ax, ay, bx, by int) api.Line { return api.Line{A: at(ax, ay), B: at(bx, by)} }

func edge(ax, ay, bx, by, m, n int) api.Edge {
	return api.Edge{A: at(ax, ay), B: at(bx, by), M: [2]int{m, n}}
}

// inside is what the chapter says of the shape of an operation.
func inside(op int, a, b bool) bool {
	switch op {
	case 1:
		return a || b
	case 2:
		return a && b
	case 3:
		return a && !b
	}
	return a && !b || b && !a
}

func TestIn(t *testing.T) {
	numbers := []int{0, 1, -1, 2, -2, 7, math.MaxInt, math.MinInt}
	for op := 1; op <= 4; op++ {
		for _, a := range numbers {
			for _, b := range numbers {
				if got := pick.In(op, [2]int{a, b}); got != inside(op, a != 0, b != 0) {
					t.Errorf("In(%d, %d %d) = %v", op, a, b, got)
				}
			}
		}
	}
	for _, op := range []int{0, 5, -1, 6, math.MaxInt, math.MinInt, 257} {
		for _, w := range [][2]int{{0, 0}, {1, 0}, {0, 1}, {1, 1}} {
			if pick.In(op, w) {
				t.Errorf("In(%d, %v)", op, w)
			}
		}
	}
}

// square is the square from 0 0 to 4 4, counterclockwise, of the first operand.
func square() []api.Edge {
	return []api.Edge{edge(0, 0, 0, 4, -1, 0), edge(0, 0, 4, 0, 1, 0), edge(0, 4, 4, 4, -1, 0), edge(4, 0, 4, 4, 1, 0)}
}

func TestWays(t *testing.T) {
	ring := []api.Line{line(0, 0, 0, 4), line(4, 0, 0, 0), line(0, 4, 4, 4), line(4, 4, 4, 0)}
	change := func(how func(x *api.Edge)) []api.Edge {
		l := square()
		for i := range l {
			how(&l[i])
		}
		return l
	}
	second := change(func(x *api.Edge) { x.M[0], x.M[1] = 0, x.M[0] })
	both := change(func(x *api.Edge) { x.M[1] = x.M[0] })
	against := change(func(x *api.Edge) { x.M[1] = -x.M[0] })
	twice := change(func(x *api.Edge) { x.M[0] *= -2 })
	// A wall within the first operand, between two winding numbers that aren't 0.
	wall := []api.Edge{edge(0, 0, 0, 4, -2, 0), edge(0, 0, 4, 0, 2, 0), edge(0, 4, 4, 4, -2, 0), edge(4, 0, 4, 4, 1, 0), edge(4, 0, 9, 2, 1, 0), edge(4, 4, 9, 2, -1, 0)}
	for i, x := range []struct {
		op   int
		l    []api.Edge
		want []api.Line
		e    api.Errno
	}{
		{api.Union, nil, nil, api.OK}, {api.Union, square(), ring, api.OK}, {api.Meet, square(), nil, api.OK}, {api.Minus, square(), ring, api.OK}, {api.Xor, square(), ring, api.OK}, {api.Union, second, ring, api.OK}, {api.Meet, second, nil, api.OK}, {api.Minus, second, nil, api.OK}, {api.Xor, second, ring, api.OK}, {api.Union, both, ring, api.OK}, {api.Meet, both, ring, api.OK}, {api.Minus, both, nil, api.OK}, {api.Xor, both, nil, api.OK}, {api.Union, against, ring, api.OK}, {api.Meet, against, ring, api.OK}, {api.Minus, against, nil, api.OK}, {api.Xor, against, nil, api.OK}, {api.Union, twice, ring, api.OK},
		{api.Union, wall, []api.Line{line(0, 0, 0, 4), line(4, 0, 0, 0), line(0, 4, 4, 4), line(9, 2, 4, 0), line(4, 4, 9, 2)}, api.OK},
		{0, square(), nil, api.ErrArg}, {5, square(), nil, api.ErrArg}, {-1, nil, nil, api.ErrArg}, {math.MaxInt, square()[:1], nil, api.ErrArg}, {api.Union, square()[:3], nil, api.ErrForm}, {api.Meet, append(square(), edge(-1, 2, 5, 2, 0, 0)), nil, api.ErrForm}, {api.Xor, []api.Edge{edge(1, 0, 0, 0, 0, 0)}, nil, api.ErrForm}, {api.Minus, []api.Edge{edge(0, 0, 70000, 0, 0, 0)}, nil, api.ErrForm},
	} {
		before := slices.Clone(x.l)
		if got, e := pick.Ways(x.op, x.l); !slices.Equal(got, x.want) || e != x.e {
			t.Errorf("row %d: %v %d", i, got, e)
		}
		if !slices.Equal(before, x.l) {
			t.Errorf("row %d: the argument was changed", i)
		}
	}
}

// area is twice the area that lines enclose.
func area(l []api.Line) int {
	n := 0
	for _, x := range l {
		n += x.A.X*x.B.Y - x.A.Y*x.B.X
	}
	return n
}

func TestWaysAny(t *testing.T) {
	r := rand.New(rand.NewSource(30))
	for range 500 {
		size := 64 * (2 + r.Intn(12))
		var o [2][]api.Line
		for k := range o {
			for range 1 + r.Intn(2) {
				first := at(r.Intn(size), r.Intn(size))
				last := first
				for range 2 + r.Intn(4) {
					next := at(r.Intn(size), r.Intn(size))
					o[k] = append(o[k], api.Line{A: last, B: next})
					last = next
				}
				o[k] = append(o[k], api.Line{A: last, B: first})
			}
		}
		edges, _ := snap.Edges(o[0], o[1])
		sides, _ := wind.Sides(edges)
		var areas [5]int
		for op := 1; op <= 4; op++ {
			got, e := pick.Ways(op, edges)
			if e != api.OK {
				t.Fatal(e)
			}
			var want []api.Line
			balance := map[api.Point]int{}
			for i, x := range edges {
				left := inside(op, sides[i].L[0] != 0, sides[i].L[1] != 0)
				right := inside(op, sides[i].R[0] != 0, sides[i].R[1] != 0)
				if right && !left {
					want = append(want, api.Line{A: x.A, B: x.B})
				} else if left && !right {
					want = append(want, api.Line{A: x.B, B: x.A})
				}
			}
			if !slices.Equal(got, want) {
				t.Fatalf("Ways(%d, %v) = %v, not %v", op, edges, got, want)
			}
			for _, x := range got {
				balance[x.A]++
				balance[x.B]--
			}
			for p, n := range balance {
				if n != 0 {
					t.Fatalf("Ways(%d, %v): %d more leave %v than arrive", op, edges, n, p)
				}
			}
			areas[op] = -area(got)
		}
		first, _ := snap.Edges(o[0], o[1])
		for i := range first {
			first[i].M[1] = 0
		}
		alone, _ := pick.Ways(api.Union, first)
		if areas[api.Union] != areas[api.Meet]+areas[api.Xor] || -area(alone) != areas[api.Meet]+areas[api.Minus] || areas[api.Meet] < 0 || areas[api.Minus] < 0 {
			t.Fatalf("%v: areas %v, of the first one %d", o, areas, -area(alone))
		}
	}
}
