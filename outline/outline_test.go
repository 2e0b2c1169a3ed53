package outline_test

import (
	"math"
	"math/big"
	"math/rand"
	"slices"
	"testing"

	"calamus/api"
	"calamus/outline"
)

func at(x, y int) api.Point { return api.Point{X: x, Y: y} }

// knots is a contour: x, y, and 1 if on the curve.
func knots(n ...int) api.Contour {
	c := make(api.Contour, 0, len(n))
	for i := 0; i < len(n); i += 3 {
		c = append(c, api.Knot{X: n[i], Y: n[i+1], On: n[i+2] == 1})
	}
	return c
}

func line(ax, ay, bx, by int) api.Seg { return api.Seg{A: at(ax, ay), B: at(bx, by)} }

func curve(ax, ay, cx, cy, bx, by int) api.Seg {
	return api.Seg{A: at(ax, ay), C: at(cx, cy), B: at(bx, by), Curve: true}
}

func TestMid(t *testing.T) {
	for _, x := range []struct{ a, b, want api.Point }{
		{at(0, 0), at(-3, 5), at(-2, 2)}, {at(0, 0), at(0, 0), at(0, 0)}, {at(1, 2), at(2, 4), at(1, 3)}, {at(-1, -1), at(0, -2), at(-1, -2)}, {at(-1, -3), at(-2, -3), at(-2, -3)}, {at(3, -1), at(-3, 1), at(0, 0)}, {at(3, -1), at(-4, 2), at(-1, 0)},
	} {
		if got := outline.Mid(x.a, x.b); got != x.want {
			t.Errorf("Mid(%v, %v) = %v", x.a, x.b, got)
		}
	}
	l := []int{0, 1, -1, 2, -2, 7, math.MaxInt, math.MaxInt - 1, math.MinInt, math.MinInt + 1, 1 << 62, -1 << 62}
	for _, a := range l {
		for _, b := range l {
			sum := new(big.Int).Add(big.NewInt(int64(a)), big.NewInt(int64(b)))
			want := int(new(big.Int).Rsh(sum, 1).Int64())
			if got := outline.Mid(at(a, 0), at(b, 9)); got != at(want, 4) {
				t.Errorf("the middle of %d and %d: %d", a, b, got.X)
			}
			if got := outline.Mid(at(3, a), at(3, b)); got != at(3, want) {
				t.Errorf("the middle of %d and %d: %d", a, b, got.Y)
			}
		}
	}
}

func TestSegs(t *testing.T) {
	for _, x := range []struct {
		c    api.Contour
		want []api.Seg
	}{
		{nil, nil}, {knots(5, 5, 1), nil}, {knots(5, 5, 0), nil}, {knots(5, 5, 1, 5, 5, 1), nil}, {knots(5, 5, 1, 5, 5, 0), nil}, {knots(5, 5, 0, 5, 5, 0), nil}, {knots(5, 5, 0, 5, 5, 1, 5, 5, 0), nil},
		{knots(0, 0, 1, 4, 0, 0, 4, 4, 1), []api.Seg{curve(0, 0, 4, 0, 4, 4), line(4, 4, 0, 0)}},
		{knots(0, 0, 0, 4, 0, 0, 4, 4, 0, 0, 4, 0), []api.Seg{curve(0, 2, 0, 0, 2, 0), curve(2, 0, 4, 0, 4, 2), curve(4, 2, 4, 4, 2, 4), curve(2, 4, 0, 4, 0, 2)}},
		{knots(0, 0, 1, 4, 0, 1), []api.Seg{line(0, 0, 4, 0), line(4, 0, 0, 0)}}, {knots(0, 0, 1, 4, 0, 1, 4, 0, 1), []api.Seg{line(0, 0, 4, 0), line(4, 0, 0, 0)}},
		// The way starts at the first knot on the curve.
		{knots(4, 0, 0, 4, 4, 1, 0, 0, 1), []api.Seg{line(4, 4, 0, 0), curve(0, 0, 4, 0, 4, 4)}}, {knots(1, 1, 0, 3, 5, 0, 9, 9, 1), []api.Seg{curve(9, 9, 1, 1, 2, 3), curve(2, 3, 3, 5, 9, 9)}}, {knots(1, 1, 0, 9, 9, 1, 3, 5, 0), []api.Seg{curve(9, 9, 3, 5, 2, 3), curve(2, 3, 1, 1, 9, 9)}},
		// A curve from a point back to it.
		{knots(0, 0, 1, 4, 4, 0), []api.Seg{curve(0, 0, 4, 4, 0, 0)}}, {knots(4, 4, 0, 0, 0, 1), []api.Seg{curve(0, 0, 4, 4, 0, 0)}}, {knots(0, 0, 0, 5, -3, 0), []api.Seg{curve(2, -2, 0, 0, 2, -2), curve(2, -2, 5, -3, 2, -2)}},
		// Curves that are straight, or end where their control point is, stay curves.
		{knots(0, 0, 1, 0, 0, 0, 4, 4, 1), []api.Seg{curve(0, 0, 0, 0, 4, 4), line(4, 4, 0, 0)}}, {knots(0, 0, 1, 4, 4, 0, 4, 4, 1), []api.Seg{curve(0, 0, 4, 4, 4, 4), line(4, 4, 0, 0)}}, {knots(0, 0, 1, 1, 1, 0, 1, 1, 0), []api.Seg{curve(0, 0, 1, 1, 1, 1), curve(1, 1, 1, 1, 0, 0)}},
		{knots(0, 0, 1, 0, 0, 0, 0, 0, 1, 7, 0, 1), []api.Seg{line(0, 0, 7, 0), line(7, 0, 0, 0)}},
		{knots(math.MaxInt, 0, 0, math.MaxInt-2, 4, 0), []api.Seg{curve(math.MaxInt-1, 2, math.MaxInt, 0, math.MaxInt-1, 2), curve(math.MaxInt-1, 2, math.MaxInt-2, 4, math.MaxInt-1, 2)}},
	} {
		before := slices.Clone(x.c)
		if got := outline.Segs(x.c); !slices.Equal(got, x.want) {
			t.Errorf("Segs(%v) = %v", x.c, got)
		}
		if !slices.Equal(before, x.c) {
			t.Errorf("%v was changed", before)
		}
	}
}

// sorted is segments in an order of their own, each in the direction that comes first.
func sorted(l []api.Seg) []api.Seg {
	less := func(a, b api.Point) bool { return a.X < b.X || a.X == b.X && a.Y < b.Y }
	c := slices.Clone(l)
	for i, s := range c {
		if less(s.B, s.A) {
			c[i].A, c[i].B = s.B, s.A
		}
	}
	slices.SortFunc(c, func(s, t api.Seg) int {
		for _, x := range [][2]int{{s.A.X, t.A.X}, {s.A.Y, t.A.Y}, {s.B.X, t.B.X}, {s.B.Y, t.B.Y}, {s.C.X, t.C.X}, {s.C.Y, t.C.Y}} {
			if x[0] != x[1] {
				return x[0] - x[1]
			}
		}
		if s.Curve != t.Curve && s.Curve {
			return 1
		}
		if s.Curve != t.Curve {
			return -1
		}
		return 0
	})
	return c
}

func TestSegsLaws(t *testing.T) {
	r := rand.New(rand.NewSource(11))
	for range 2000 {
		var c api.Contour
		for range 1 + r.Intn(7) {
			c = append(c, api.Knot{X: r.Intn(5) - 2, Y: r.Intn(5) - 2, On: r.Intn(2) == 0})
		}
		l := outline.Segs(c)
		for i, s := range l {
			if s.A != l[(i+len(l)-1)%len(l)].B {
				t.Fatalf("%v: segment %d doesn't start where the one ahead of it ends", c, i)
			}
			if !s.Curve && s.C != at(0, 0) {
				t.Fatalf("%v: a straight segment with a control point", c)
			}
			if s.A == s.B && (!s.Curve || s.C == s.A) {
				t.Fatalf("%v: a segment that is a point", c)
			}
		}
		// The other way round, and from another knot on: the same segments.
		n := r.Intn(len(c))
		turned := append(slices.Clone(c[n:]), c[:n]...)
		back := outline.Flip(api.Outline{c})[0]
		if want := sorted(l); !slices.Equal(sorted(outline.Segs(turned)), want) || !slices.Equal(sorted(outline.Segs(back)), want) {
			t.Fatalf("%v: other segments from knot %d, or the other way", c, n)
		}
	}
}

// same says whether outlines are the same, nil and empty alike.
func same(a, b api.Outline) bool {
	return slices.EqualFunc(a, b, func(a, b api.Contour) bool { return slices.Equal(a, b) })
}

// deep is a copy of an outline.
func deep(o api.Outline) api.Outline {
	var c api.Outline
	for _, x := range o {
		c = append(c, append(api.Contour{}, x...))
	}
	return c
}

// spoil changes all that an outline holds, with the spare room.
func spoil(o api.Outline) {
	for _, c := range o[:cap(o)] {
		c = c[:cap(c)]
		for i := range c {
			c[i].X += 77
		}
	}
	clear(o[:cap(o)])
}

func TestFlip(t *testing.T) {
	for _, x := range []struct{ o, want api.Outline }{
		{nil, nil}, {api.Outline{nil, {}}, api.Outline{nil, nil}}, {api.Outline{knots(1, 2, 1)}, api.Outline{knots(1, 2, 1)}},
		{api.Outline{knots(1, 2, 1, 3, 4, 0, 5, 6, 1), nil, knots(7, 8, 0, 9, 10, 1)}, api.Outline{knots(5, 6, 1, 3, 4, 0, 1, 2, 1), nil, knots(9, 10, 1, 7, 8, 0)}},
		{api.Outline{knots(math.MinInt, math.MaxInt, 1, 0, 0, 0)}, api.Outline{knots(0, 0, 0, math.MinInt, math.MaxInt, 1)}},
	} {
		before := deep(x.o)
		got := outline.Flip(x.o)
		if !same(got, x.want) {
			t.Errorf("Flip(%v) = %v", x.o, got)
		}
		spoil(got)
		if !same(x.o, before) {
			t.Errorf("%v was changed, or shares memory", before)
		}
	}
}

func TestLift(t *testing.T) {
	for _, x := range []struct {
		o, want api.Outline
		e       api.Errno
	}{
		{nil, nil, api.OK}, {api.Outline{nil}, api.Outline{nil}, api.OK}, {api.Outline{knots(1, -2, 1, 3, 4, 0), knots(0, 5, 1)}, api.Outline{knots(64, -128, 1, 192, 256, 0), knots(0, 320, 1)}, api.OK},
		{api.Outline{knots(-32768, 32767, 1, 32767, -32768, 0)}, api.Outline{knots(-2097152, 2097088, 1, 2097088, -2097152, 0)}, api.OK},
		{api.Outline{knots(32768, 0, 1)}, nil, api.ErrRange}, {api.Outline{knots(0, 32768, 1)}, nil, api.ErrRange}, {api.Outline{knots(-32769, 0, 1)}, nil, api.ErrRange}, {api.Outline{knots(0, -32769, 0)}, nil, api.ErrRange}, {api.Outline{knots(0, 0, 1), knots(1, 1, 1, 0, math.MinInt, 0)}, nil, api.ErrRange}, {api.Outline{knots(math.MaxInt, 0, 0), nil}, nil, api.ErrRange},
	} {
		before := deep(x.o)
		got, e := outline.Lift(x.o)
		if !same(got, x.want) || e != x.e {
			t.Errorf("Lift(%v) = %v %d", x.o, got, e)
		}
		spoil(got)
		if !same(x.o, before) {
			t.Errorf("%v was changed, or shares memory", before)
		}
	}
}

func TestContoursApart(t *testing.T) {
	o := api.Outline{knots(1, 1, 1), knots(2, 2, 1), knots(3, 3, 1)}
	lifted, _ := outline.Lift(o)
	for _, got := range []api.Outline{outline.Flip(o), lifted} {
		want := deep(got)
		got[0] = append(got[0], api.Knot{X: 99})
		if !same(got[1:], want[1:]) {
			t.Error("contours share memory")
		}
	}
}

func TestKnots(t *testing.T) {
	for _, x := range []struct {
		o    api.Outline
		want int
	}{{nil, 0}, {api.Outline{nil, {}}, 0}, {api.Outline{knots(1, 2, 1)}, 1}, {api.Outline{knots(1, 2, 1, 3, 4, 0), nil, knots(5, 6, 0, 7, 8, 1, 9, 10, 1)}, 5}} {
		if got := outline.Knots(x.o); got != x.want {
			t.Errorf("Knots(%v) = %d", x.o, got)
		}
	}
}
