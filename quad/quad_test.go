package quad_test

import (
	"math"
	"math/rand"
	"testing"

	"calamus/api"
	"calamus/quad"
)

const most = api.MaxSub

func at(x, y int) api.Point { return api.Point{X: x, Y: y} }

func line(ax, ay, bx, by int) api.Seg { return api.Seg{A: at(ax, ay), B: at(bx, by)} }

func curve(ax, ay, cx, cy, bx, by int) api.Seg {
	return api.Seg{A: at(ax, ay), C: at(cx, cy), B: at(bx, by), Curve: true}
}

// segs are pieces in range, of many sizes.
func segs() []api.Seg {
	l := []api.Seg{
		curve(0, 0, 64, 0, 64, 64), curve(0, 0, 1000, 0, 1000, 1000), line(0, 0, 7, -3), line(5, 5, 5, 5), curve(5, 5, 5, 5, 5, 5), curve(-1, 2, 3, -4, -1, 2),
		curve(most, most, -most, -most, most, most), curve(-most, most, most, -most, -most, most), curve(-most, -most, 0, most, most, -most), line(-most, most, most, -most), curve(most, -most, most, -most, most, -most),
	}
	r := rand.New(rand.NewSource(13))
	for range 60 {
		size := 1 << r.Intn(23)
		n := func() int { return r.Intn(2*size+1) - size }
		l = append(l, line(n(), n(), n(), n()), curve(n(), n(), n(), n(), n(), n()))
	}
	return l
}

// wrong are pieces with a point out of range.
func wrong() []api.Seg {
	var l []api.Seg
	for _, p := range []api.Point{at(most+1, 0), at(0, most+1), at(-most-1, 0), at(0, -most-1), at(math.MaxInt, 0), at(0, math.MinInt)} {
		l = append(l, api.Seg{A: p, B: at(1, 1)}, api.Seg{A: at(1, 1), B: p}, api.Seg{A: p, B: at(1, 1), Curve: true}, api.Seg{A: at(1, 1), B: p, Curve: true}, api.Seg{A: at(1, 1), B: at(2, 2), C: p, Curve: true})
	}
	return l
}

// exact is the point at k of 2^n, times 4^n, by halving the way between points on the way between points.
func exact(s api.Seg, k, n int) api.Point {
	all := 1 << n
	between := func(a, b api.Point) api.Point { return at(a.X*(all-k)+b.X*k, a.Y*(all-k)+b.Y*k) }
	if s.Curve {
		return between(between(s.A, s.C), between(s.C, s.B))
	}
	p := between(s.A, s.B)
	return at(p.X*all, p.Y*all)
}

// rounded is a number divided by d, to the nearest integer, halves up.
func rounded(n, d int) int { return int(math.Floor(float64(n)/float64(d) + 0.5)) }

func TestExamples(t *testing.T) {
	s := curve(0, 0, 64, 0, 64, 64)
	if p, e := quad.At(s, 1, 1); p != at(192, 64) || e != api.OK {
		t.Error(p, e)
	}
	if p, e := quad.Round(s, 1, 1); p != at(48, 16) || e != api.OK {
		t.Error(p, e)
	}
	if quad.Bend(s) != 64 || quad.Steps(s) != 0 || quad.MostSteps != 10 {
		t.Error(quad.Bend(s), quad.Steps(s))
	}
	s = curve(0, 0, 1000, 0, 1000, 1000)
	if quad.Bend(s) != 1000 || quad.Steps(s) != 2 {
		t.Error(quad.Bend(s), quad.Steps(s))
	}
	l, r, e := quad.Split(curve(0, 0, 64, 0, 64, 64))
	if l != curve(0, 0, 128, 0, 192, 64) || r != curve(192, 64, 256, 128, 256, 256) || e != api.OK {
		t.Error(l, r, e)
	}
}

func TestAtRound(t *testing.T) {
	for _, s := range segs() {
		for n := range 11 {
			for _, k := range []int{0, 1, 2, 3, 1<<n/2 - 1, 1 << n / 2, 1<<n/3 + 1, 1<<n - 1, 1 << n} {
				if k < 0 || k > 1<<n {
					continue
				}
				want := exact(s, k, n)
				if p, e := quad.At(s, k, n); p != want || e != api.OK {
					t.Fatalf("At(%v, %d, %d) = %v %d, not %v", s, k, n, p, e, want)
				}
				want = at(rounded(want.X, 1<<(2*n)), rounded(want.Y, 1<<(2*n)))
				if p, e := quad.Round(s, k, n); p != want || e != api.OK {
					t.Fatalf("Round(%v, %d, %d) = %v %d, not %v", s, k, n, p, e, want)
				}
			}
		}
	}
	// Halves are rounded up, on either side of 0.
	for _, x := range []struct{ b, want api.Point }{{at(1, -1), at(1, 0)}, {at(3, -3), at(2, -1)}, {at(2, -2), at(1, -1)}} {
		if p, e := quad.Round(api.Seg{B: x.b}, 1, 1); p != x.want || e != api.OK {
			t.Error(x, p, e)
		}
	}
	// A straight piece has no control point, whatever stands there.
	s := api.Seg{A: at(1, 2), B: at(5, 6), C: at(math.MaxInt, math.MinInt)}
	if p, e := quad.At(s, 1, 2); p != at(32, 48) || e != api.OK {
		t.Error(p, e)
	}
}

func TestAtErrors(t *testing.T) {
	check := func(s api.Seg, k, n int, want api.Errno) {
		p, e := quad.At(s, k, n)
		q, f := quad.Round(s, k, n)
		if p != at(0, 0) || e != want || q != at(0, 0) || f != want {
			t.Errorf("%v %d %d: %v %d, %v %d, not %d", s, k, n, p, e, q, f, want)
		}
	}
	for _, x := range [][2]int{{-1, 0}, {2, 0}, {3, 1}, {-1, 5}, {1025, 10}, {0, -1}, {0, 11}, {0, 64}, {1, 63}, {math.MaxInt, 10}, {math.MinInt, 3}, {0, math.MaxInt}, {0, math.MinInt}, {-1, math.MinInt}} {
		check(curve(1, 2, 3, 4, 5, 6), x[0], x[1], api.ErrArg)
		check(line(1, 2, 3, 4), x[0], x[1], api.ErrArg)
		check(line(most+1, 2, 3, 4), x[0], x[1], api.ErrArg)
	}
	for _, s := range wrong() {
		check(s, 0, 0, api.ErrRange)
		check(s, 1024, 10, api.ErrRange)
		check(s, -1, 0, api.ErrArg)
	}
}

func TestSplit(t *testing.T) {
	times := func(s api.Seg, n int) api.Seg {
		return api.Seg{A: at(n*s.A.X, n*s.A.Y), B: at(n*s.B.X, n*s.B.Y), C: at(n*s.C.X, n*s.C.Y), Curve: s.Curve}
	}
	quarter := most / 4
	for _, s := range segs() {
		// Smaller by 16, none is too great; the greatest are as great as may be.
		small := api.Seg{A: at(s.A.X/4, s.A.Y/4), B: at(s.B.X/4, s.B.Y/4), Curve: s.Curve}
		if s.Curve {
			small.C = at(s.C.X/4, s.C.Y/4)
		}
		l, r, e := quad.Split(small)
		if e != api.OK || l.Curve != s.Curve || r.Curve != s.Curve || l.B != r.A || !s.Curve && (l.C != at(0, 0) || r.C != at(0, 0)) {
			t.Fatalf("Split(%v) = %v %v %d", small, l, r, e)
		}
		// The halves have its points.
		four := times(small, 4)
		for k := range 5 {
			whole, _ := quad.At(four, k, 3)
			left := exact(l, k, 2)
			other, _ := quad.At(four, 4+k, 3)
			right := exact(r, k, 2)
			if whole != at(4*left.X, 4*left.Y) || other != at(4*right.X, 4*right.Y) {
				t.Fatalf("Split(%v) = %v %v: other points at %d", small, l, r, k)
			}
		}
	}
	l, r, e := quad.Split(line(1, 2, 4, -7))
	if l != line(4, 8, 10, -10) || r != line(10, -10, 16, -28) || e != api.OK {
		t.Error(l, r, e)
	}
	for _, x := range []struct {
		s    api.Seg
		want api.Errno
	}{
		{curve(quarter, quarter, quarter, -quarter, -quarter, -quarter), api.OK}, {line(quarter, -quarter, -quarter, quarter), api.OK}, {curve(quarter+1, 0, 0, 0, 1, 1), api.ErrRange}, {curve(0, -quarter-1, 0, 0, 1, 1), api.ErrRange}, {curve(0, 0, 0, 0, -quarter-1, 1), api.ErrRange}, {curve(0, 0, 0, 0, 0, quarter+1), api.ErrRange}, {curve(0, 0, quarter+1, 0, 0, 0), api.ErrRange}, {curve(0, 0, 0, -quarter-1, 0, 0), api.ErrRange}, {curve(0, 0, -quarter-1, 0, 0, 0), api.ErrRange}, {curve(0, 0, 0, quarter+1, 0, 0), api.ErrRange},
		{line(quarter+1, 0, 0, 0), api.ErrRange}, {line(0, quarter+1, 0, 0), api.ErrRange}, {line(0, 0, -quarter-1, 0), api.ErrRange}, {line(0, 0, 0, math.MinInt), api.ErrRange}, {line(math.MaxInt, 0, 0, 0), api.ErrRange}, {line(-quarter-1, 0, 0, 0), api.ErrRange}, {line(0, -quarter-1, 0, 0), api.ErrRange},
	} {
		l, r, e := quad.Split(x.s)
		if e != x.want || e != api.OK && (l != api.Seg{} || r != api.Seg{}) {
			t.Errorf("Split(%v) = %v %v %d", x.s, l, r, e)
		}
	}
	straight := api.Seg{A: at(1, 1), B: at(2, 2), C: at(math.MaxInt, 9)}
	if l, r, e := quad.Split(straight); e != api.OK || l != line(4, 4, 6, 6) || r != line(6, 6, 8, 8) {
		t.Error(l, r, e)
	}
}

func TestBendSteps(t *testing.T) {
	for _, x := range []struct {
		s           api.Seg
		bend, steps int
	}{
		{line(0, 0, 1000, 999), 0, 0}, {api.Seg{A: at(0, 0), B: at(9, 9), C: at(999, 0)}, 0, 0}, {curve(0, 0, 5, 5, 10, 10), 0, 0}, {curve(0, 0, 0, 32, 0, 0), 64, 0}, {curve(0, 0, -32, 3, 0, 0), 64, 0}, {curve(0, 0, 0, 0, 0, 65), 65, 1}, {curve(65, 0, 0, 0, 0, 0), 65, 1}, {curve(-65, 0, 0, 0, 0, 64), 65, 1}, {curve(0, -65, 0, 0, 0, 0), 65, 1},
		{curve(256, 1, 0, 0, 0, 0), 256, 1}, {curve(257, 1, 0, 0, 0, 0), 257, 2}, {curve(1024, 0, 0, 0, 0, 0), 1024, 2}, {curve(1025, 0, 0, 0, 0, 0), 1025, 3}, {curve(1<<20, 0, 0, 0, 0, 0), 1 << 20, 7}, {curve(1<<20, 0, 0, 0, 1, 0), 1<<20 + 1, 8}, {curve(1<<22, 0, 0, 0, 0, 0), 1 << 22, 8}, {curve(1<<22, 0, 0, 0, 1, 0), 1<<22 + 1, 9},
		{curve(most, most, -most, -most, most, most), 1 << 24, 9}, {curve(0, -most, 0, most, 0, -most), 1 << 24, 9}, {curve(1, 7, 2, 3, 4, 9), 10, 0},
	} {
		if bend, steps := quad.Bend(x.s), quad.Steps(x.s); bend != x.bend || steps != x.steps {
			t.Errorf("%v: bend %d, steps %d", x.s, bend, steps)
		}
	}
	for _, s := range wrong() {
		if quad.Bend(s) != 0 || quad.Steps(s) != 0 {
			t.Errorf("%v: bend %d, steps %d", s, quad.Bend(s), quad.Steps(s))
		}
	}
}

func TestBox(t *testing.T) {
	for _, x := range []struct {
		s           api.Seg
		least, most api.Point
	}{
		{line(1, 5, 3, 2), at(1, 2), at(3, 5)}, {line(3, 2, 1, 5), at(1, 2), at(3, 5)}, {curve(1, 5, 7, 1, 3, 2), at(1, 1), at(7, 5)}, {curve(1, 5, -7, 11, 3, 2), at(-7, 2), at(3, 11)}, {api.Seg{A: at(1, 5), B: at(3, 2), C: at(100, 100)}, at(1, 2), at(3, 5)}, {line(4, 4, 4, 4), at(4, 4), at(4, 4)}, {line(5, 5, 9, 8), at(5, 5), at(9, 8)},
		{curve(math.MaxInt, math.MinInt, 0, 0, math.MinInt, math.MaxInt), at(math.MinInt, math.MinInt), at(math.MaxInt, math.MaxInt)}, {curve(most+5, 0, 0, most+6, -9, -9), at(-9, -9), at(most+5, most+6)},
	} {
		if least, most := quad.Box(x.s); least != x.least || most != x.most {
			t.Errorf("Box(%v) = %v %v", x.s, least, most)
		}
	}
	for _, s := range segs() {
		least, most := quad.Box(s)
		for k := range 17 {
			p, _ := quad.Round(s, k, 4)
			if p.X < least.X || p.Y < least.Y || p.X > most.X || p.Y > most.Y {
				t.Errorf("%v: the point %v is not in the box", s, p)
			}
		}
	}
}

func TestDeviation(t *testing.T) {
	for _, s := range segs() {
		n := quad.Steps(s)
		if n > 9 {
			t.Fatalf("%v: %d steps", s, n)
		}
		// Half way between two points the piece deviates most; all numbers times 4^(n+1).
		for k := range 1 << n {
			a, b := exact(s, k, n), exact(s, k+1, n)
			m := exact(s, 2*k+1, n+1)
			for _, d := range []int{m.X - 2*(a.X+b.X), m.Y - 2*(a.Y+b.Y)} {
				if max(d, -d) > 16<<(2*n+2) {
					t.Fatalf("%v: deviates by more than 16 behind point %d of 2^%d", s, k, n)
				}
			}
		}
	}
}
