package shape_test

import (
	"math"
	"math/rand"
	"slices"
	"testing"

	"calamus/api"
	"calamus/flat"
	"calamus/outline"
	"calamus/pick"
	"calamus/pixel"
	"calamus/quad"
	"calamus/shape"
	"calamus/snap"
	"calamus/trace"
	"calamus/wind"
)

const most = api.MaxSub

func at(x, y int) api.Point { return api.Point{X: x, Y: y} }

// ring is a contour of knots on the curve, x and y in turn.
func ring(n ...int) api.Contour {
	c := make(api.Contour, 0, len(n)/2)
	for i := 0; i < len(n); i += 2 {
		c = append(c, api.Knot{X: n[i], Y: n[i+1], On: true})
	}
	return c
}

// box is a rectangle, counterclockwise, and hole is one clockwise.
func box(x, y, xx, yy int) api.Contour { return ring(x, y, xx, y, xx, yy, x, yy) }

func hole(x, y, xx, yy int) api.Contour { return ring(x, y, x, yy, xx, yy, xx, y) }

// lift is contours in subunits.
func lift(c ...api.Contour) api.Outline {
	o, e := outline.Lift(c)
	if e != api.OK {
		panic(e)
	}
	return o
}

// lines is the lines of contours, given in font units.
func lines(c ...api.Contour) []api.Line {
	l, e := flat.Lines(lift(c...))
	if e != api.OK {
		panic(e)
	}
	return l
}

func same(a, b api.Outline) bool {
	return slices.EqualFunc(a, b, func(a, b api.Contour) bool { return slices.Equal(a, b) })
}

func deep(o api.Outline) api.Outline {
	var c api.Outline
	for _, x := range o {
		c = append(c, append(api.Contour{}, x...))
	}
	return c
}

func TestExamples(t *testing.T) {
	a, b := api.Outline{box(0, 0, 4, 4)}, api.Outline{box(2, 2, 6, 6)}
	eight := api.Outline{ring(0, 0, 4, 4, 4, 0, 0, 4)}
	for i, x := range []struct {
		op   int
		a, b api.Outline
		want api.Outline
	}{
		{api.Union, nil, nil, nil}, {api.Xor, nil, nil, nil}, {api.Union, a, b, api.Outline{ring(0, 0, 0, 4, 2, 4, 2, 6, 6, 6, 6, 2, 4, 2, 4, 0)}}, {api.Meet, a, b, api.Outline{ring(2, 2, 2, 4, 4, 4, 4, 2)}}, {api.Minus, a, b, api.Outline{ring(0, 0, 0, 4, 2, 4, 2, 2, 4, 2, 4, 0)}}, {api.Minus, b, a, api.Outline{ring(2, 4, 2, 6, 6, 6, 6, 2, 4, 2, 4, 4)}}, {api.Xor, a, b, api.Outline{ring(0, 0, 0, 4, 2, 4, 2, 2, 4, 2, 4, 0), ring(2, 4, 2, 6, 6, 6, 6, 2, 4, 2, 4, 4)}}, {api.Minus, a, a, nil}, {api.Xor, a, a, nil}, {api.Union, a, a, api.Outline{ring(0, 0, 0, 4, 4, 4, 4, 0)}}, {api.Meet, a, nil, nil}, {api.Minus, nil, a, nil}, {api.Union, nil, a, api.Outline{ring(0, 0, 0, 4, 4, 4, 4, 0)}},
		// Two squares in one outline; a ring whose contours go the same way, and the other way; a figure of eight; a clockwise square.
		{api.Union, append(a, b...), nil, api.Outline{ring(0, 0, 0, 4, 2, 4, 2, 6, 6, 6, 6, 2, 4, 2, 4, 0)}}, {api.Union, api.Outline{box(0, 0, 9, 9), box(3, 3, 6, 6)}, nil, api.Outline{ring(0, 0, 0, 9, 9, 9, 9, 0)}}, {api.Union, api.Outline{box(0, 0, 9, 9), hole(3, 3, 6, 6)}, nil, api.Outline{ring(0, 0, 0, 9, 9, 9, 9, 0), ring(3, 3, 6, 3, 6, 6, 3, 6)}}, {api.Union, eight, nil, api.Outline{ring(0, 0, 0, 4, 2, 2), ring(2, 2, 4, 4, 4, 0)}}, {api.Union, api.Outline{hole(0, 0, 4, 4)}, nil, api.Outline{hole(0, 0, 4, 4)}},
		// Squares that touch along a side, and in a corner; ways of no area; single points.
		{api.Union, a, api.Outline{box(4, 0, 8, 4)}, api.Outline{ring(0, 0, 0, 4, 8, 4, 8, 0)}}, {api.Union, a, api.Outline{box(4, 4, 8, 8)}, api.Outline{ring(0, 0, 0, 4, 4, 4, 4, 0), ring(4, 4, 4, 8, 8, 8, 8, 4)}}, {api.Union, api.Outline{ring(0, 0, 5, 5), ring(1, 1), ring(0, 0, 5, 0, 9, 0)}, nil, nil}, {api.Union, a, api.Outline{ring(0, 0, 9, 9)}, api.Outline{ring(0, 0, 0, 4, 4, 4, 4, 0)}},
		{api.Union, api.Outline{box(-32768, -32768, 32767, 32767)}, nil, api.Outline{hole(-32768, -32768, 32767, 32767)}},
	} {
		first, second := lift(x.a...), lift(x.b...)
		before, beforeB := deep(first), deep(second)
		got, e := shape.Apply(x.op, first, second)
		if e != api.OK || !same(got, x.want) {
			t.Errorf("row %d: %v %d", i, got, e)
		}
		if !same(first, before) || !same(second, beforeB) {
			t.Errorf("row %d: an argument was changed", i)
		}
		direct, e := shape.Of(x.op, lines(x.a...), lines(x.b...))
		if e != api.OK || !same(direct, x.want) {
			t.Errorf("row %d: Of returns %v %d", i, direct, e)
		}
		if !shape.Clean(got) {
			t.Errorf("row %d: %v is not clean", i, got)
		}
		if len(got) > 1 {
			got[0] = append(got[0], api.Knot{X: 77})
			if !same(got[1:], x.want[1:]) {
				t.Errorf("row %d: contours share memory", i)
			}
		}
	}
}

// strips is n rectangles across and n upwards, at places that are multiples of 8 from start on.
func strips(n, start int) []api.Contour {
	var c []api.Contour
	for i := range n {
		c = append(c, box(start, start+8*i+2, start+8*n, start+8*i+6), box(start+8*i+2, start, start+8*i+6, start+8*n))
	}
	return c
}

func TestOfErrors(t *testing.T) {
	square := lines(box(0, 0, 4, 4))
	many := slices.Repeat(square, 1024)
	open := square[:3]
	far := []api.Line{{A: at(most+1, 0), B: at(0, 0)}}
	edge := []api.Line{{A: at(0, 0), B: at(32768*64, 0)}, {A: at(32768*64, 0), B: at(0, 640)}, {A: at(0, 640), B: at(0, 0)}}
	low := []api.Line{{A: at(0, 0), B: at(0, -32769*64)}, {A: at(0, -32769*64), B: at(640, 0)}, {A: at(640, 0), B: at(0, 0)}}
	for i, x := range []struct {
		op   int
		a, b []api.Line
		want api.Errno
	}{
		{0, square, nil, api.ErrArg}, {5, square, nil, api.ErrArg}, {-1, nil, nil, api.ErrArg}, {math.MinInt, many, square, api.ErrArg}, {7, far, open, api.ErrArg},
		{api.Union, many, nil, api.OK}, {api.Union, many, square, api.ErrFull}, {api.Union, many[:4000], many[:97], api.ErrFull}, {api.Union, many, far, api.ErrFull}, {api.Union, far, nil, api.ErrRange}, {api.Meet, open, far, api.ErrRange}, {api.Meet, nil, []api.Line{{A: at(0, 0), B: at(0, -most-1)}}, api.ErrRange},
		{api.Union, open, nil, api.ErrForm}, {api.Meet, square, open, api.ErrForm}, {api.Minus, open, square, api.ErrForm}, {api.Xor, square[1:], slices.Concat(edge, edge[:1]), api.ErrForm},
		{api.Union, edge, nil, api.ErrRange}, {api.Xor, nil, edge, api.ErrRange}, {api.Union, low, nil, api.ErrRange}, {api.Meet, edge, square, api.OK}, {api.Minus, square, edge, api.OK},
		// Knots are counted after all else, lines of the contours before their range is looked at.
		{api.Union, lines(strips(31, 0)...), nil, api.OK}, {api.Union, lines(strips(32, 0)...), nil, api.ErrFull}, {api.Union, lines(strips(32, 0)...), edge, api.ErrRange}, {api.Union, lines(strips(64, 0)...), nil, api.ErrFull}, {api.Meet, lines(strips(32, 0)...), square, api.OK}, {api.Union, lines(strips(130, 0)...), edge, api.ErrFull},
	} {
		before := append(slices.Clone(x.a), x.b...)
		got, e := shape.Of(x.op, x.a, x.b)
		if e != x.want || e != api.OK && len(got) != 0 {
			t.Errorf("row %d: %d contours %d, not %d", i, len(got), e, x.want)
		}
		if e == api.OK && !shape.Clean(got) {
			t.Errorf("row %d: not clean", i)
		}
		if !slices.Equal(before, append(slices.Clone(x.a), x.b...)) {
			t.Errorf("row %d: an argument was changed", i)
		}
	}
}

func TestMostKnots(t *testing.T) {
	// A comb with as many teeth as there may be knots for, and one tooth more.
	comb := func(teeth, rest int) api.Contour {
		c := ring(0, 0)
		for i := range teeth {
			c = append(c, ring(4*i+2, 10, 4*i+4, 5)...)
		}
		return append(c, ring(4*teeth, rest)...)
	}
	o, e := shape.Apply(api.Union, lift(comb(2047, -9)), nil)
	if e != api.OK || outline.Knots(o) != 4096 {
		t.Error(outline.Knots(o), e)
	}
	o, e = shape.Apply(api.Union, lift(comb(2040, -9)), lift(box(-30, 0, -20, 4), box(-25, 2, -15, 9)))
	if e != api.OK || outline.Knots(o) != 4090 {
		t.Error(outline.Knots(o), e)
	}
	o, e = shape.Apply(api.Union, lift(comb(2041, -9)), lift(box(-30, 0, -20, 4), box(-25, 2, -15, 9), box(-60, 0, -50, 9)))
	if e != api.OK || outline.Knots(o) != 4096 {
		t.Error(outline.Knots(o), e)
	}
	o, e = shape.Apply(api.Union, lift(comb(2041, -9)), lift(box(-30, 0, -20, 4), box(-25, 2, -15, 9), ring(-60, 0, -50, 0, -45, 5, -50, 9, -60, 9)))
	if e != api.ErrFull || len(o) != 0 {
		t.Error(outline.Knots(o), e)
	}
}

func TestApplyErrors(t *testing.T) {
	square := lift(box(0, 0, 4, 4))
	dots := api.Outline{slices.Repeat(ring(1, 1), 4097)}
	far := api.Outline{ring(most+1, 0)}
	many := api.Outline(slices.Repeat(square, 1024))
	for i, x := range []struct {
		op   int
		a, b api.Outline
		want api.Errno
	}{
		{0, square, square, api.ErrArg}, {5, far, dots, api.ErrArg}, {-3, dots, nil, api.ErrArg}, {api.Union, dots, far, api.ErrFull}, {api.Union, far, dots, api.ErrRange}, {api.Xor, square, dots, api.ErrFull}, {api.Meet, square, far, api.ErrRange}, {api.Minus, far, nil, api.ErrRange}, {api.Minus, api.Outline{ring(0, -most-1)}, nil, api.ErrRange}, {api.Union, many, nil, api.OK}, {api.Union, many, square, api.ErrFull}, {api.Union, api.Outline{ring(0, 0, 64*32768, 0, 0, 64)}, nil, api.ErrRange}, {api.Union, api.Outline{ring(0, 0, 64*32768-33, 0, 0, 64)}, nil, api.OK}, {api.Union, api.Outline{ring(0, 0, 64*32768-32, 0, 0, 64)}, nil, api.ErrRange}, {api.Union, api.Outline{ring(0, 0, 0, -64*32768-32, 64, 0)}, nil, api.OK}, {api.Union, api.Outline{ring(0, 0, 0, -64*32768-33, 64, 0)}, nil, api.ErrRange},
	} {
		got, e := shape.Apply(x.op, x.a, x.b)
		if e != x.want || e != api.OK && len(got) != 0 {
			t.Errorf("row %d: %v %d, not %d", i, got, e, x.want)
		}
	}
}

func TestClean(t *testing.T) {
	off := hole(0, 0, 4, 4)
	off[2].On = false
	for i, x := range []struct {
		o    api.Outline
		want bool
	}{
		{nil, true}, {api.Outline{hole(0, 0, 4, 4)}, true}, {api.Outline{box(0, 0, 4, 4)}, false}, {api.Outline{nil}, false}, {api.Outline{ring(1, 1)}, false}, {api.Outline{ring(1, 1, 4, 4)}, false}, {api.Outline{ring(0, 0, 0, 4, 4, 4), nil}, false}, {api.Outline{off}, false}, {api.Outline{ring(0, 0, 0, 4, 4, 4, 4, 4)}, false}, {api.Outline{ring(0, 0, 0, 0, 0, 4, 4, 4)}, false}, {api.Outline{ring(0, 0, 0, 4, 4, 4, 0, 0)}, false}, {api.Outline{ring(2, 2, 2, 2, 2, 2)}, false},
		{api.Outline{hole(-32768, -32768, 32767, 32767)}, true}, {api.Outline{hole(0, 0, 32768, 4)}, false}, {api.Outline{hole(0, 0, 4, 32768)}, false}, {api.Outline{hole(-32769, 0, 4, 4)}, false}, {api.Outline{hole(0, -32769, 4, 4)}, false}, {api.Outline{hole(0, 0, math.MaxInt, 4)}, false},
		// A hole, one in a hole, a shape in a hole, contours beside one another, in a corner, and along a side.
		{api.Outline{hole(0, 0, 9, 9), box(1, 1, 8, 8)}, true}, {api.Outline{hole(0, 0, 9, 9), box(1, 1, 8, 8), hole(2, 2, 7, 7)}, true}, {api.Outline{hole(0, 0, 9, 9), box(1, 1, 8, 8), box(2, 2, 7, 7)}, false}, {api.Outline{hole(0, 0, 9, 9), hole(1, 1, 8, 8)}, false}, {api.Outline{box(1, 1, 8, 8)}, false}, {api.Outline{hole(0, 0, 4, 4), hole(6, 0, 9, 4)}, true}, {api.Outline{hole(0, 0, 4, 4), hole(4, 4, 9, 9)}, true}, {api.Outline{hole(0, 0, 4, 4), hole(4, 0, 9, 4)}, false}, {api.Outline{hole(0, 0, 4, 4), hole(4, 1, 9, 3)}, false}, {api.Outline{hole(0, 0, 4, 4), hole(0, 0, 4, 4)}, false}, {api.Outline{hole(0, 0, 4, 4), box(0, 0, 4, 4)}, false},
		// Crossings, an end on a side, a point that lies straight, a contour that touches itself.
		{api.Outline{hole(0, 0, 4, 4), hole(2, 2, 6, 6)}, false}, {api.Outline{ring(0, 0, 4, 4, 4, 0, 0, 4)}, false}, {api.Outline{ring(0, 0, 0, 4, 2, 2), ring(2, 2, 4, 4, 4, 0)}, true}, {api.Outline{ring(0, 0, 0, 4, 2, 2, 4, 4, 4, 0, 2, 2)}, true}, {api.Outline{ring(0, 0, 0, 2, 0, 4, 4, 4, 4, 0)}, true}, {api.Outline{hole(0, 0, 4, 4), ring(4, 2, 6, 3, 6, 1)}, false}, {api.Outline{ring(0, 0, 0, 4, 4, 4, 4, 2, 4, 0), ring(4, 2, 6, 3, 6, 1)}, true}, {api.Outline{ring(0, 0, 2, 0, 4, 0)}, false}, {api.Outline{ring(0, 0, 0, 4, 4, 4, 4, 0, 6, 0, 4, 0)}, false},
	} {
		before := deep(x.o)
		if got := shape.Clean(x.o); got != x.want {
			t.Errorf("row %d: %v", i, got)
		}
		if !same(before, x.o) {
			t.Errorf("row %d: the argument was changed", i)
		}
	}
}

// anyOutline is an outline of lines and curves, in subunits.
func anyOutline(r *rand.Rand, size int) api.Outline {
	var o api.Outline
	for range 1 + r.Intn(3) {
		var c api.Contour
		for range 2 + r.Intn(4) {
			c = append(c, api.Knot{X: r.Intn(2*size) - size, Y: r.Intn(2*size) - size, On: r.Intn(5) > 1})
		}
		o = append(o, c)
	}
	return o
}

// fine is the lines of an outline that are nearly its curves.
func fine(o api.Outline) []api.Line {
	const steps = 8
	var l []api.Line
	for _, c := range o {
		for _, s := range outline.Segs(c) {
			for k := range 1 << steps {
				a, _ := quad.Round(s, k, steps)
				b, _ := quad.Round(s, k+1, steps)
				l = append(l, api.Line{A: a, B: b})
			}
		}
	}
	return l
}

// far says whether no line comes as near to a point as so much, in X and in Y.
func far(l []api.Line, p api.Point, near int) bool {
	cross := func(a, b, c api.Point) int { return (b.X-a.X)*(c.Y-a.Y) - (b.Y-a.Y)*(c.X-a.X) }
	for _, x := range l {
		if max(x.A.X, x.B.X) < p.X-near || min(x.A.X, x.B.X) > p.X+near || max(x.A.Y, x.B.Y) < p.Y-near || min(x.A.Y, x.B.Y) > p.Y+near {
			continue
		}
		left, right := 0, 0
		for _, d := range []api.Point{at(-near, -near), at(-near, near), at(near, -near), at(near, near)} {
			c := cross(x.A, x.B, at(p.X+d.X, p.Y+d.Y))
			if c >= 0 {
				left++
			}
			if c <= 0 {
				right++
			}
		}
		if left > 0 && right > 0 {
			return false
		}
	}
	return true
}

func TestRightPoints(t *testing.T) {
	r := rand.New(rand.NewSource(33))
	inside, outside := 0, 0
	for range 150 {
		size := 64 * (5 + r.Intn(60))
		a, b := anyOutline(r, size), anyOutline(r, size)
		op := 1 + r.Intn(4)
		got, e := shape.Apply(op, a, b)
		if e != api.OK || !shape.Clean(got) {
			t.Fatalf("Apply(%d, %v, %v) = %v %d", op, a, b, got, e)
		}
		lifted, _ := outline.Lift(got)
		result, _ := flat.Lines(lifted)
		fineA, fineB := fine(a), fine(b)
		for range 60 {
			p := at(r.Intn(2*size+200)-size-100, r.Intn(2*size+200)-size-100)
			// The fine lines lie within a subunit or two of the curves.
			if !far(fineA, p, 66) || !far(fineB, p, 66) {
				continue
			}
			first, _, _ := wind.Lines(fineA, p)
			second, _, _ := wind.Lines(fineB, p)
			want := 0
			if pick.In(op, [2]int{first, second}) {
				want = -1
				inside++
			} else {
				outside++
			}
			if n, on, e := wind.Lines(result, p); n != want || on || e != api.OK {
				t.Fatalf("Apply(%d, %v, %v) winds %d %v about %v, not %d", op, a, b, n, on, p, want)
			}
		}
	}
	if inside < 300 || outside < 300 {
		t.Error("too few points:", inside, outside)
	}
}

func TestOfAny(t *testing.T) {
	r := rand.New(rand.NewSource(34))
	for range 400 {
		size := 64 * (2 + r.Intn(20))
		first, _ := flat.Lines(anyOutline(r, size))
		second, _ := flat.Lines(anyOutline(r, size))
		op := 1 + r.Intn(4)
		got, e := shape.Of(op, first, second)
		edges, _ := snap.Edges(first, second)
		ways, _ := pick.Ways(op, edges)
		contours, _ := trace.Contours(ways)
		hot, _ := pixel.Hot(append(slices.Clone(first), second...))
		want := api.Outline{}
		for _, c := range contours {
			var knots api.Contour
			for _, p := range c {
				knots = append(knots, api.Knot{X: p.X, Y: p.Y, On: true})
				if !slices.Contains(hot, p) {
					t.Fatalf("%v is no hot pixel", p)
				}
			}
			want = append(want, knots)
		}
		if e != api.OK || !same(got, want) || !shape.Clean(got) {
			t.Fatalf("Of(%d, %v, %v) = %v %d, not %v", op, first, second, got, e, want)
		}
	}
}

func TestCircle(t *testing.T) {
	// Four curves, each over an eighth of the circle's box twice.
	c := api.Contour{}
	for _, p := range []api.Point{at(500, 0), at(500, 500), at(0, 500), at(-500, 500), at(-500, 0), at(-500, -500), at(0, -500), at(500, -500)} {
		c = append(c, api.Knot{X: p.X, Y: p.Y, On: p.X == 0 || p.Y == 0})
	}
	o, e := shape.Apply(api.Union, lift(c), nil)
	if e != api.OK || len(o) != 1 || len(o[0]) < 30 || !shape.Clean(o) {
		t.Fatal(o, e)
	}
	l := fine(lift(c))
	for _, k := range o[0] {
		if far(l, at(64*k.X, 64*k.Y), 64) {
			t.Errorf("the knot %v deviates by more than a unit", k)
		}
	}
}

func TestSpareRoom(t *testing.T) {
	// What lies behind an argument, in its spare room, is not written to.
	all := lines(box(0, 0, 4, 4), box(9, 9, 12, 12))
	before := slices.Clone(all)
	if _, e := shape.Of(api.Union, all[:4], lines(box(2, 2, 6, 6))); e != api.OK || !slices.Equal(all, before) {
		t.Error(all, e)
	}
	o := lift(box(0, 0, 4, 4), box(9, 9, 12, 12))
	if got, e := shape.Apply(api.Union, o[:1], lift(box(2, 2, 6, 6))); e != api.OK || len(got) != 1 || !same(o, lift(box(0, 0, 4, 4), box(9, 9, 12, 12))) {
		t.Error(got, e, o)
	}
}
