package pixel_test

import (
	"math"
	"math/big"
	"math/rand"
	"slices"
	"testing"

	"calamus/api"
	"calamus/cross"
	"calamus/pixel"
)

const most = api.MaxSub

func at(x, y int) api.Point { return api.Point{X: x, Y: y} }

func line(ax, ay, bx, by int) api.Line { return api.Line{A: at(ax, ay), B: at(bx, by)} }

func order(a, b api.Point) int {
	if a.X != b.X {
		return a.X - b.X
	}
	return a.Y - b.Y
}

func TestOf(t *testing.T) {
	for _, x := range []struct{ p, want api.Point }{
		{at(31, -32), at(0, 0)}, {at(32, -33), at(1, -1)}, {at(0, 0), at(0, 0)}, {at(95, 96), at(1, 2)}, {at(-96, -97), at(-1, -2)}, {at(most, -most), at(65536, -65536)}, {at(64, -64), at(1, -1)},
		{at(math.MaxInt-32, 0), at(1<<57-1, 0)}, {at(0, math.MinInt), at(0, -1<<57)}, {at(math.MinInt, math.MaxInt-32), at(-1<<57, 1<<57-1)}, {at(math.MaxInt-96, 0), at(1<<57-2, 0)},
	} {
		if got := pixel.Of(x.p); got != x.want {
			t.Errorf("Of(%v) = %v, not %v", x.p, got, x.want)
		}
	}
	pixel.Of(at(math.MaxInt, math.MaxInt-31))
	for n := -500; n < 500; n++ {
		want := int(math.Floor(float64(n+32) / 64))
		if got := pixel.Of(at(n, 7)); got != at(want, 0) {
			t.Errorf("Of(%d) = %v", n, got)
		}
		if got := pixel.Of(at(70, n)); got != at(1, want) {
			t.Errorf("Of(%d) = %v", n, got)
		}
	}
}

// hits says whether a line goes through a pixel: whether an end lies in it, or what there is of the line between the sides' lines.
func hits(l api.Line, p api.Point) bool {
	rat := func(n, d int) *big.Rat { return new(big.Rat).SetFrac64(int64(n), int64(d)) }
	// The fractions at which the line meets a side's line, 0 and 1; and all middles between neighbors.
	f := []*big.Rat{rat(0, 1), rat(1, 1)}
	for _, side := range []int{-32, 32} {
		if d := l.B.X - l.A.X; d != 0 {
			f = append(f, rat(64*p.X+side-l.A.X, d))
		}
		if d := l.B.Y - l.A.Y; d != 0 {
			f = append(f, rat(64*p.Y+side-l.A.Y, d))
		}
	}
	slices.SortFunc(f, func(a, b *big.Rat) int { return a.Cmp(b) })
	for i := len(f) - 1; i > 0; i-- {
		sum := new(big.Rat).Add(f[i], f[i-1])
		f = append(f, sum.Quo(sum, rat(2, 1)))
	}
	in := func(a, b, row int, x *big.Rat) bool {
		n := new(big.Rat).Add(rat(a, 1), new(big.Rat).Mul(x, rat(b-a, 1)))
		return n.Cmp(rat(64*row-32, 1)) >= 0 && n.Cmp(rat(64*row+32, 1)) < 0
	}
	for _, x := range f {
		if x.Sign() >= 0 && x.Cmp(rat(1, 1)) <= 0 && in(l.A.X, l.B.X, p.X, x) && in(l.A.Y, l.B.Y, p.Y, x) {
			return true
		}
	}
	return false
}

func TestHitsExamples(t *testing.T) {
	for _, x := range []struct {
		l    api.Line
		p    api.Point
		want bool
	}{
		{line(0, 0, 100, 32), at(1, 0), true}, {line(0, 0, 100, 32), at(1, 1), false}, {line(0, 0, 100, 32), at(2, 1), true}, {line(0, 0, 100, 32), at(0, 0), true}, {line(0, 0, 100, 32), at(2, 0), true}, {line(0, 0, 100, 32), at(0, 1), false}, {line(0, 0, 100, 32), at(3, 1), false}, {line(0, 0, 100, 32), at(-1, 0), false},
		// Along the sides, of which the left and the lower one belong to the pixel.
		{line(-32, -32, -32, 31), at(0, 0), true}, {line(32, -32, 32, 31), at(0, 0), false}, {line(32, -32, 32, 31), at(1, 0), true}, {line(-32, -32, 31, -32), at(0, 0), true}, {line(-32, 32, 31, 32), at(0, 0), false}, {line(-32, 32, 31, 32), at(0, 1), true},
		// Through the corners.
		{line(-64, 0, 0, -64), at(0, 0), true}, {line(-64, 0, 0, 64), at(0, 0), false}, {line(64, 0, 0, 64), at(0, 0), false}, {line(64, 0, 0, -64), at(0, 0), false}, {line(0, -64, -64, 0), at(0, 0), true}, {line(0, 64, 64, 0), at(1, 1), true}, {line(-96, -96, 96, 96), at(0, 0), true}, {line(-96, -96, 96, 96), at(0, 1), false}, {line(-96, -96, 96, 96), at(1, 0), false}, {line(-96, -96, 96, 96), at(1, 1), true}, {line(-96, -96, 96, 96), at(2, 2), true}, {line(96, 96, -96, -96), at(-1, -1), true}, {line(96, 96, -96, -96), at(-2, -2), false}, {line(96, 96, -97, -97), at(-2, -2), true},
		// Ends on the sides.
		{line(31, 0, 100, 0), at(0, 0), true}, {line(32, 0, 100, 0), at(0, 0), false}, {line(100, 0, 32, 0), at(0, 0), false}, {line(100, 0, 31, 0), at(0, 0), true}, {line(-100, 0, -32, 0), at(0, 0), true}, {line(-100, 0, -33, 0), at(0, 0), false}, {line(0, 100, 0, 32), at(0, 0), false}, {line(0, -100, 0, -32), at(0, 0), true}, {line(0, -100, 0, -33), at(0, 0), false},
		// Points.
		{line(5, 5, 5, 5), at(0, 0), true}, {line(-32, -32, -32, -32), at(0, 0), true}, {line(32, 0, 32, 0), at(0, 0), false}, {line(0, 32, 0, 32), at(0, 0), false}, {line(-33, 0, -33, 0), at(0, 0), false}, {line(0, -33, 0, -33), at(0, 0), false},
		{line(-most, -most, most, most), at(65536, 65536), true}, {line(-most, -most, most, most), at(-65536, -65536), true}, {line(-most, -most, most, most), at(17, 17), true}, {line(-most, -most, most, most), at(17, 18), false}, {line(-most, -most, most, most-1), at(65535, 65535), true},
	} {
		if got := pixel.Hits(x.l, x.p); got != x.want || hits(x.l, x.p) != x.want {
			t.Errorf("Hits(%v, %v) = %v, by fractions %v", x.l, x.p, got, hits(x.l, x.p))
		}
	}
	// Out of range: a line's end, or the pixel.
	for _, p := range []api.Point{at(most+1, 0), at(0, most+1), at(-most-1, 0), at(0, -most-1), at(math.MaxInt, 0), at(0, math.MinInt)} {
		if pixel.Hits(api.Line{A: p, B: at(0, 0)}, at(0, 0)) || pixel.Hits(api.Line{A: at(0, 0), B: p}, at(0, 0)) || pixel.Hits(api.Line{A: p, B: p}, pixel.Of(p)) {
			t.Error("a line to", p)
		}
		if pixel.Hits(line(-most, -most, most, most), p) || pixel.Hits(line(0, 0, 0, 0), p) {
			t.Error("the pixel", p)
		}
	}
	for _, p := range []api.Point{at(65537, 0), at(0, 65537), at(-65537, 0), at(0, -65537)} {
		if pixel.Hits(line(-most, 0, most, 0), p) || pixel.Hits(line(0, -most, 0, most), p) {
			t.Error("the pixel", p)
		}
	}
	// Pixels so far away that their sides' places, reckoned without care, are those about 0.
	for _, p := range []api.Point{at(1<<58, 0), at(0, 1<<58), at(-1<<58, 0), at(0, -1<<58)} {
		if pixel.Hits(line(0, 0, 0, 0), p) || pixel.Hits(line(-5, -5, 5, 5), p) {
			t.Error("the pixel", p)
		}
	}
	if pixel.Hits(line(0, 0, most, most), at(65537, 65536)) {
		t.Error("a pixel out of range")
	}
}

func TestHitsAny(t *testing.T) {
	r := rand.New(rand.NewSource(19))
	for range 6000 {
		n := func() int { return 16 * (r.Intn(17) - 8) }
		l, p := line(n(), n(), n(), n()), at(r.Intn(5)-2, r.Intn(5)-2)
		if got := pixel.Hits(l, p); got != hits(l, p) {
			t.Fatalf("Hits(%v, %v) = %v", l, p, got)
		}
	}
	for range 3000 {
		size := 1 << r.Intn(23)
		n := func() int { return r.Intn(2*size+1) - size }
		l := line(n(), n(), n(), n())
		// A pixel near some point of the line.
		k := r.Intn(101)
		near := at((l.A.X*k+l.B.X*(100-k))/100+r.Intn(129)-64, (l.A.Y*k+l.B.Y*(100-k))/100+r.Intn(129)-64)
		p := pixel.Of(near)
		want := hits(l, p) && max(p.X, p.Y) <= 65536 && min(p.X, p.Y) >= -65536
		if got := pixel.Hits(l, p); got != want {
			t.Fatalf("Hits(%v, %v) = %v", l, p, got)
		}
	}
}

// hot is the pixels of all ends and of each two lines' only common point.
func hot(l []api.Line) []api.Point {
	var all []api.Point
	for i, s := range l {
		all = append(all, pixel.Of(s.A), pixel.Of(s.B))
		for _, o := range l[:i] {
			if x, _ := cross.Meet(s, o); x.Kind == 1 {
				p, _ := cross.Pixel(x)
				all = append(all, p)
			}
		}
	}
	slices.SortFunc(all, order)
	return slices.Compact(all)
}

func TestHot(t *testing.T) {
	for _, x := range []struct {
		l    []api.Line
		want []api.Point
	}{
		{nil, nil}, {[]api.Line{line(0, 0, 128, 128), line(0, 128, 128, 0)}, []api.Point{at(0, 0), at(0, 2), at(1, 1), at(2, 0), at(2, 2)}}, {[]api.Line{line(0, 0, 5, 5)}, []api.Point{at(0, 0)}}, {[]api.Line{line(64, 0, 64, 0)}, []api.Point{at(1, 0)}}, {[]api.Line{line(0, 0, 640, 0), line(320, 0, 960, 0)}, []api.Point{at(0, 0), at(5, 0), at(10, 0), at(15, 0)}}, {[]api.Line{line(0, 0, 640, 0), line(320, 320, 320, 0)}, []api.Point{at(0, 0), at(5, 0), at(5, 5), at(10, 0)}}, {[]api.Line{line(0, 0, 640, 0), line(0, 0, 640, 0)}, []api.Point{at(0, 0), at(10, 0)}},
		{[]api.Line{line(640, 0, 0, 0), line(-64, 640, -64, -640)}, []api.Point{at(-1, -10), at(-1, 10), at(0, 0), at(10, 0)}}, {[]api.Line{line(0, 0, 640, 640), line(640, 0, 640, 640)}, []api.Point{at(0, 0), at(10, 0), at(10, 10)}},
	} {
		before := slices.Clone(x.l)
		if got, e := pixel.Hot(x.l); e != api.OK || !slices.Equal(got, x.want) {
			t.Errorf("Hot(%v) = %v %d", x.l, got, e)
		}
		if !slices.Equal(before, x.l) {
			t.Error("the argument was changed")
		}
	}
}

func TestHotAny(t *testing.T) {
	r := rand.New(rand.NewSource(20))
	for range 300 {
		size := 16 << r.Intn(18)
		n := func() int { return r.Intn(2*size+1) - size }
		var l []api.Line
		for range r.Intn(30) {
			l = append(l, line(n(), n(), n(), n()))
			if r.Intn(3) == 0 {
				l = append(l, api.Line{A: l[r.Intn(len(l))].B, B: at(n(), l[r.Intn(len(l))].A.Y)})
			}
		}
		got, e := pixel.Hot(l)
		if e != api.OK || !slices.Equal(got, hot(l)) {
			t.Fatalf("Hot(%v) = %v %d, not %v", l, got, e, hot(l))
		}
		for i, s := range l {
			for _, o := range l[:i] {
				x, _ := cross.Meet(s, o)
				if p, ok := cross.Pixel(x); ok && (!pixel.Hits(s, p) || !pixel.Hits(o, p)) {
					t.Fatalf("%v and %v meet in %v, which they don't hit", s, o, p)
				}
			}
			if !pixel.Hits(s, pixel.Of(s.A)) || !pixel.Hits(s, pixel.Of(s.B)) {
				t.Fatalf("%v doesn't hit the pixels of its ends", s)
			}
		}
		slices.Reverse(l)
		if again, _ := pixel.Hot(l); !slices.Equal(again, got) {
			t.Fatal("the order of lines matters")
		}
	}
}

func TestHotErrors(t *testing.T) {
	many := func(n int) []api.Line {
		var l []api.Line
		for i := range n {
			l = append(l, line(64*i, 0, 64*i, 0))
		}
		return l
	}
	bad := line(0, 0, 0, most+1)
	if l, e := pixel.Hot(many(4096)); len(l) != 4096 || e != api.OK {
		t.Error(len(l), e)
	}
	for i, x := range []struct {
		l    []api.Line
		want api.Errno
	}{
		{many(4097), api.ErrFull}, {append(many(4096), bad), api.ErrFull}, {append(many(4095), bad), api.ErrRange}, {[]api.Line{bad}, api.ErrRange}, {[]api.Line{line(-most-1, 0, 0, 0)}, api.ErrRange}, {[]api.Line{line(0, math.MinInt, 0, 0), line(0, 0, 1, 1)}, api.ErrRange}, {[]api.Line{line(0, 0, math.MaxInt, 0)}, api.ErrRange},
	} {
		if l, e := pixel.Hot(x.l); len(l) != 0 || e != x.want {
			t.Errorf("row %d: %v %d", i, l, e)
		}
	}
	if l, e := pixel.Hot([]api.Line{line(-most, most, most, -most)}); e != api.OK || !slices.Equal(l, []api.Point{at(-65536, 65536), at(65536, -65536)}) {
		t.Error(l, e)
	}
}
