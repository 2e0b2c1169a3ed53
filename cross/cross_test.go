package cross_test

import (
	"math"
	"math/big"
	"math/rand"
	"testing"

	"calamus/api"
	"calamus/cross"
	"calamus/wide"
)

const most = api.MaxSub

func at(x, y int) api.Point { return api.Point{X: x, Y: y} }

func line(ax, ay, bx, by int) api.Line { return api.Line{A: at(ax, ay), B: at(bx, by)} }

// far are points out of range.
func far() []api.Point {
	return []api.Point{at(most+1, 0), at(0, most+1), at(-most-1, 0), at(0, -most-1), at(math.MaxInt, 5), at(5, math.MinInt)}
}

// value is the number that an Int stands for.
func value(a wide.Int) *big.Int {
	n := new(big.Int).Lsh(big.NewInt(a.Hi), 64)
	return n.Add(n, new(big.Int).SetUint64(a.Lo))
}

// share is a coordinate of what Meet returned.
func share(n wide.Int, d int) *big.Rat { return new(big.Rat).SetFrac(value(n), big.NewInt(int64(d))) }

// one is a point that lines have in common.
func one(x, y int64, d int) cross.Point {
	return cross.Point{Kind: 1, X: wide.Of(x), Y: wide.Of(y), D: d}
}

func TestOn(t *testing.T) {
	for _, x := range []struct {
		p    api.Point
		l    api.Line
		want bool
	}{
		{at(2, 1), line(0, 0, 4, 2), true}, {at(2, 1), line(4, 2, 0, 0), true}, {at(0, 0), line(0, 0, 4, 2), true}, {at(4, 2), line(0, 0, 4, 2), true}, {at(6, 3), line(0, 0, 4, 2), false}, {at(-2, -1), line(0, 0, 4, 2), false}, {at(2, 2), line(0, 0, 4, 2), false}, {at(1, 1), line(0, 0, 4, 2), false},
		{at(3, 5), line(3, 5, 3, 5), true}, {at(3, 6), line(3, 5, 3, 5), false}, {at(4, 5), line(3, 5, 3, 5), false}, {at(3, 4), line(3, 0, 3, 4), true}, {at(3, 5), line(3, 0, 3, 4), false}, {at(3, -1), line(3, 0, 3, 4), false}, {at(5, 3), line(0, 3, 4, 3), false}, {at(4, 3), line(0, 3, 4, 3), true}, {at(-1, 3), line(0, 3, 4, 3), false},
		{at(most, most), line(-most, -most, most, most), true}, {at(0, 0), line(-most, -most, most, most), true}, {at(0, 1), line(-most, -most, most, most), false}, {at(1, 1), line(-most, -most, most, most-1), false},
	} {
		if got := cross.On(x.p, x.l); got != x.want {
			t.Errorf("On(%v, %v) = %v", x.p, x.l, got)
		}
	}
	for _, p := range far() {
		if cross.On(p, api.Line{A: p, B: p}) || cross.On(at(0, 0), api.Line{A: p, B: at(0, 0)}) || cross.On(at(0, 0), api.Line{A: at(0, 0), B: p}) || cross.On(p, line(0, 0, 1, 1)) {
			t.Error("out of range:", p)
		}
	}
}

func TestMeetExamples(t *testing.T) {
	for _, x := range []struct {
		s, t api.Line
		want cross.Point
	}{
		{line(0, 0, 4, 4), line(0, 4, 4, 0), one(64, 64, 32)}, {line(0, 0, 4, 0), line(2, 0, 9, 0), cross.Point{Kind: 2}}, {line(0, 0, 4, 0), line(4, 0, 9, 0), one(4, 0, 1)}, {line(0, 4, 4, 0), line(0, 0, 4, 4), one(64, 64, 32)},
		// Ends on lines, and on ends.
		{line(0, 0, 4, 0), line(2, 0, 2, 5), one(40, 0, 20)}, {line(0, 0, 4, 0), line(2, 1, 2, 5), cross.Point{}}, {line(0, 0, 4, 0), line(4, 0, 9, 1), one(16, 0, 4)}, {line(0, 0, 4, 0), line(5, -1, 5, 1), cross.Point{}}, {line(0, 0, 4, 0), line(-1, -1, -1, 1), cross.Point{}}, {line(0, 0, 4, 4), line(3, 0, 4, 3), cross.Point{}}, {line(0, 0, 4, 4), line(0, 1, 1, 9), cross.Point{}},
		// Parallel ones.
		{line(0, 0, 4, 2), line(0, 1, 4, 3), cross.Point{}}, {line(0, 0, 4, 2), line(8, 4, 6, 3), cross.Point{}}, {line(0, 0, 4, 2), line(8, 4, 4, 2), one(4, 2, 1)}, {line(0, 0, 4, 2), line(8, 4, 2, 1), cross.Point{Kind: 2}}, {line(0, 0, 4, 2), line(0, 0, 4, 2), cross.Point{Kind: 2}}, {line(0, 0, 4, 2), line(4, 2, 0, 0), cross.Point{Kind: 2}}, {line(0, 0, 8, 4), line(2, 1, 4, 2), cross.Point{Kind: 2}}, {line(2, 1, 4, 2), line(0, 0, 8, 4), cross.Point{Kind: 2}}, {line(0, 0, 8, 4), line(0, 0, -2, -1), one(0, 0, 1)}, {line(3, 0, 3, 4), line(3, 4, 3, 9), one(3, 4, 1)}, {line(3, 0, 3, 4), line(3, 5, 3, 9), cross.Point{}}, {line(3, 0, 3, 4), line(4, 0, 4, 4), cross.Point{}},
		// Lines that are points.
		{line(2, 1, 2, 1), line(0, 0, 4, 2), one(2, 1, 1)}, {line(0, 0, 4, 2), line(2, 1, 2, 1), one(2, 1, 1)}, {line(0, 0, 4, 2), line(2, 2, 2, 2), cross.Point{}}, {line(5, 5, 5, 5), line(5, 5, 5, 5), one(5, 5, 1)}, {line(5, 5, 5, 5), line(5, 6, 5, 6), cross.Point{}}, {line(0, 0, 0, 0), line(0, 0, 4, 2), one(0, 0, 1)}, {line(6, 3, 6, 3), line(0, 0, 4, 2), cross.Point{}},
		{line(-5, -7, -5, -7), line(-5, -7, 0, 0), one(-5, -7, 1)},
	} {
		if got, e := cross.Meet(x.s, x.t); got != x.want || e != api.OK {
			t.Errorf("Meet(%v, %v) = %v %d", x.s, x.t, got, e)
		}
	}
	for _, p := range far() {
		for i := range 4 {
			ends := [4]api.Point{at(0, 0), at(1, 1), at(0, 1), at(1, 0)}
			ends[i] = p
			if got, e := cross.Meet(api.Line{A: ends[0], B: ends[1]}, api.Line{A: ends[2], B: ends[3]}); got != (cross.Point{}) || e != api.ErrRange {
				t.Errorf("Meet of %v = %v %d", ends, got, e)
			}
		}
	}
}

// meet is what lines have in common, by fractions: Kind, and the point.
func meet(s, t api.Line) (int, *big.Rat, *big.Rat) {
	n := func(a int) *big.Rat { return new(big.Rat).SetInt64(int64(a)) }
	v, w := at(s.B.X-s.A.X, s.B.Y-s.A.Y), at(t.B.X-t.A.X, t.B.Y-t.A.Y)
	c := v.X*w.Y - v.Y*w.X
	if c == 0 {
		found := map[api.Point]int{}
		for _, p := range []api.Point{s.A, s.B} {
			if cross.On(p, t) {
				found[p]++
			}
		}
		for _, p := range []api.Point{t.A, t.B} {
			if cross.On(p, s) {
				found[p]++
			}
		}
		for p := range found {
			return min(len(found), 2), n(p.X), n(p.Y)
		}
		return 0, nil, nil
	}
	dx, dy := t.A.X-s.A.X, t.A.Y-s.A.Y
	f := new(big.Rat).SetFrac64(int64(dx*w.Y-dy*w.X), int64(c))
	g := new(big.Rat).SetFrac64(int64(dx*v.Y-dy*v.X), int64(c))
	for _, x := range []*big.Rat{f, g} {
		if x.Sign() < 0 || x.Cmp(n(1)) > 0 {
			return 0, nil, nil
		}
	}
	x := new(big.Rat).Add(n(s.A.X), new(big.Rat).Mul(f, n(v.X)))
	y := new(big.Rat).Add(n(s.A.Y), new(big.Rat).Mul(f, n(v.Y)))
	return 1, x, y
}

// floor is a fraction, rounded down.
func floor(x *big.Rat) int {
	return int(new(big.Int).Div(x.Num(), x.Denom()).Int64())
}

// pixel is the pixel of a point.
func pixel(x, y *big.Rat) api.Point {
	in := func(n *big.Rat) int {
		sum := new(big.Rat).Add(n, new(big.Rat).SetInt64(32))
		return floor(sum.Quo(sum, new(big.Rat).SetInt64(64)))
	}
	return at(in(x), in(y))
}

// check holds Meet and Pixel of two lines against fractions.
func check(t *testing.T, s, o api.Line) {
	t.Helper()
	kind, x, y := meet(s, o)
	got, e := cross.Meet(s, o)
	back, f := cross.Meet(o, s)
	if e != api.OK || f != api.OK || got.Kind != kind || back.Kind != kind {
		t.Fatalf("Meet(%v, %v) = %v %d, %v %d: not of Kind %d", s, o, got, e, back, f, kind)
	}
	p, ok := cross.Pixel(got)
	q, ok2 := cross.Pixel(back)
	if p != q || ok != ok2 || ok != (kind == 1) {
		t.Fatalf("Pixel of %v and %v: %v %v, %v %v", s, o, p, ok, q, ok2)
	}
	if kind != 1 {
		if got.X != (wide.Int{}) || got.Y != (wide.Int{}) || got.D != 0 || p != at(0, 0) {
			t.Fatalf("Meet(%v, %v) = %v, Pixel %v", s, o, got, p)
		}
		return
	}
	c := (s.B.X-s.A.X)*(o.B.Y-o.A.Y) - (s.B.Y-s.A.Y)*(o.B.X-o.A.X)
	if c == 0 {
		c = 1
	}
	if got.D != max(c, -c) || share(got.X, got.D).Cmp(x) != 0 || share(got.Y, got.D).Cmp(y) != 0 || back != got {
		t.Fatalf("Meet(%v, %v) = %v, %v", s, o, got, back)
	}
	if p != pixel(x, y) {
		t.Fatalf("Pixel of %v and %v = %v, not %v", s, o, p, pixel(x, y))
	}
}

func TestMeetSmall(t *testing.T) {
	r := rand.New(rand.NewSource(16))
	for range 20000 {
		n := func() int { return r.Intn(7) - 3 }
		check(t, line(n(), n(), n(), n()), line(n(), n(), n(), n()))
	}
}

func TestMeetAny(t *testing.T) {
	r := rand.New(rand.NewSource(17))
	for range 5000 {
		size := 1 << r.Intn(23)
		n := func() int { return r.Intn(2*size+1) - size }
		check(t, line(n(), n(), n(), n()), line(n(), n(), n(), n()))
	}
	check(t, line(-most, -most, most, most), line(-most, most, most, -most))
	check(t, line(-most, -most, most, most), line(-most, -most+1, most, most-1))
	check(t, line(most, -most, -most, most-1), line(-most, -most+1, most, most))
	check(t, line(-most, -most, most, most), line(most, most, -most, -most+1))
}

func TestMeetMoved(t *testing.T) {
	r := rand.New(rand.NewSource(18))
	n := func() int { return r.Intn(801) - 400 }
	move := func(l api.Line, x, y int) api.Line { return line(l.A.X+x, l.A.Y+y, l.B.X+x, l.B.Y+y) }
	for range 3000 {
		s, o := line(n(), n(), n(), n()), line(n(), n(), n(), n())
		x, y := r.Intn(99)-50, r.Intn(99)-50
		a, _ := cross.Meet(s, o)
		b, _ := cross.Meet(move(s, 64*x, 64*y), move(o, 64*x, 64*y))
		p, ok := cross.Pixel(a)
		q, ok2 := cross.Pixel(b)
		if a.Kind != b.Kind || ok != ok2 || ok && q != at(p.X+x, p.Y+y) {
			t.Fatalf("%v and %v, moved by %d %d: %v %v, %v %v", s, o, x, y, a, p, b, q)
		}
	}
}

func TestPixel(t *testing.T) {
	for _, x := range []struct {
		p    cross.Point
		want api.Point
	}{
		{one(32, -33, 1), at(1, -1)}, {one(31, -32, 1), at(0, 0)}, {one(-96, 96, 1), at(-1, 2)}, {one(-97, 95, 1), at(-2, 1)}, {one(0, 0, 7), at(0, 0)}, {one(223, 224, 7), at(0, 1)}, {one(-224, -225, 7), at(0, -1)}, {one(most, -most, 1), at(65536, -65536)}, {cross.Point{Kind: 1, X: wide.Mul(most, 1<<46), Y: wide.Mul(-most, 1<<46), D: 1 << 46}, at(65536, -65536)},
	} {
		if got, ok := cross.Pixel(x.p); got != x.want || !ok {
			t.Errorf("Pixel(%v) = %v %v", x.p, got, ok)
		}
	}
	for _, kind := range []int{0, 2, 3, -1} {
		p := one(64, 64, 1)
		p.Kind = kind
		if kind == 0 || kind == 2 {
			if got, ok := cross.Pixel(p); got != at(0, 0) || ok {
				t.Errorf("Pixel(%v) = %v %v", p, got, ok)
			}
		}
		cross.Pixel(p)
	}
	// Only that it ends is promised of these.
	for _, d := range []int{0, -1, math.MinInt, math.MaxInt, 1 << 58} {
		cross.Pixel(one(5, 5, d))
		cross.Pixel(cross.Point{Kind: 1, X: wide.Int{Hi: math.MaxInt64, Lo: math.MaxUint64}, Y: wide.Int{Hi: math.MinInt64}, D: d})
	}
}
