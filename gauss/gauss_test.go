package gauss_test

import (
	"math"
	"math/rand"
	"slices"
	"testing"

	"calamus/api"
	"calamus/gauss"
)

const most = api.MaxSub

func at(x, y int) api.Point { return api.Point{X: x, Y: y} }

// points are points in range: small ones, the corners, and any.
func points() []api.Point {
	l := []api.Point{at(0, 0), at(1, 0), at(0, 1), at(-1, 0), at(0, -1), at(3, 1), at(2, 4), at(-7, 5), at(most, most), at(-most, most), at(-most, -most), at(most, -most), at(most, most-1), at(most-1, most), at(-most+1, 1-most), at(most, 0), at(0, -most)}
	r := rand.New(rand.NewSource(8))
	for range 15 {
		l = append(l, at(r.Intn(2*most+1)-most, r.Intn(2*most+1)-most))
	}
	return l
}

// far are points out of range.
func far() []api.Point {
	return []api.Point{at(most+1, 0), at(0, most+1), at(-most-1, 0), at(0, -most-1), at(math.MaxInt, 5), at(5, math.MaxInt), at(math.MinInt, 0), at(0, math.MinInt), at(most+1, -most-1)}
}

// cross and dot in whole numbers.
func cross(a, b api.Point) int { return a.X*b.Y - a.Y*b.X }

func dot(a, b api.Point) int { return a.X*b.X + a.Y*b.Y }

func minus(a, b api.Point) api.Point { return at(a.X-b.X, a.Y-b.Y) }

func sign(n int) int {
	if n > 0 {
		return 1
	}
	if n < 0 {
		return -1
	}
	return 0
}

func TestGood(t *testing.T) {
	if !gauss.Good() || !gauss.Good(points()...) || !gauss.Good(at(most, -most)) {
		t.Error("points in range")
	}
	for _, p := range far() {
		if gauss.Good(p) || gauss.Good(at(0, 0), p) || gauss.Good(p, at(0, 0)) || gauss.Good(at(1, 1), p, at(2, 2)) {
			t.Error(p)
		}
	}
	l := points()
	gauss.Good(l...)
	if !slices.Equal(l, points()) {
		t.Error("the argument was changed")
	}
}

func TestProducts(t *testing.T) {
	if n, e := gauss.Cross(at(3, 1), at(2, 4)); n != 10 || e != api.OK {
		t.Error(n, e)
	}
	if n, e := gauss.Dot(at(3, 1), at(2, 4)); n != 10 || e != api.OK {
		t.Error(n, e)
	}
	if p, e := gauss.Times(at(3, 1), at(2, 4)); p != at(2, 14) || e != api.OK {
		t.Error(p, e)
	}
	for _, a := range points() {
		for _, b := range points() {
			c, e := gauss.Cross(a, b)
			d, f := gauss.Dot(a, b)
			p, g := gauss.Times(a, b)
			if c != cross(a, b) || d != dot(a, b) || p != at(a.X*b.X-a.Y*b.Y, a.X*b.Y+a.Y*b.X) || e != api.OK || f != api.OK || g != api.OK {
				t.Errorf("%v and %v: %d %d, %d %d, %v %d", a, b, c, e, d, f, p, g)
			}
			if back, _ := gauss.Cross(b, a); back != -c {
				t.Errorf("Cross of %v and %v doesn't change its sign", a, b)
			}
		}
		for _, b := range far() {
			c, e := gauss.Cross(a, b)
			d, f := gauss.Cross(b, a)
			if c != 0 || e != api.ErrRange || d != 0 || f != api.ErrRange {
				t.Errorf("Cross of %v and %v: %d %d, %d %d", a, b, c, e, d, f)
			}
			c, e = gauss.Dot(a, b)
			d, f = gauss.Dot(b, a)
			if c != 0 || e != api.ErrRange || d != 0 || f != api.ErrRange {
				t.Errorf("Dot of %v and %v: %d %d, %d %d", a, b, c, e, d, f)
			}
			p, e := gauss.Times(a, b)
			q, f := gauss.Times(b, a)
			if p != at(0, 0) || e != api.ErrRange || q != at(0, 0) || f != api.ErrRange {
				t.Errorf("Times of %v and %v: %v %d, %v %d", a, b, p, e, q, f)
			}
		}
	}
	for _, a := range []api.Point{at(1234, -987), at(-32000, 17)} {
		for _, b := range []api.Point{at(31, 32767), at(-5, -6)} {
			c, _ := gauss.Cross(a, b)
			d, _ := gauss.Dot(a, b)
			if c*c+d*d != dot(a, a)*dot(b, b) {
				t.Errorf("the squares of %v and %v don't add up", a, b)
			}
		}
	}
}

func TestQuarter(t *testing.T) {
	if p, e := gauss.Quarter(at(3, 1), 1); p != at(-1, 3) || e != api.OK {
		t.Error(p, e)
	}
	for _, p := range points() {
		turned := []api.Point{p, at(-p.Y, p.X), at(-p.X, -p.Y), at(p.Y, -p.X)}
		for n := -9; n <= 9; n++ {
			if q, e := gauss.Quarter(p, n); q != turned[(n+12)%4] || e != api.OK {
				t.Errorf("Quarter(%v, %d) = %v %d", p, n, q, e)
			}
		}
		for n, want := range map[int]int{math.MaxInt: 3, math.MinInt: 0, math.MinInt + 1: 1, math.MaxInt - 1: 2} {
			if q, e := gauss.Quarter(p, n); q != turned[want] || e != api.OK {
				t.Errorf("Quarter(%v, %d) = %v %d", p, n, q, e)
			}
		}
	}
	for _, p := range far() {
		for n := range 4 {
			if q, e := gauss.Quarter(p, n); q != at(0, 0) || e != api.ErrRange {
				t.Errorf("Quarter(%v, %d) = %v %d", p, n, q, e)
			}
		}
	}
}

func TestTurn(t *testing.T) {
	if n, e := gauss.Turn(at(0, 0), at(4, 0), at(1, 1)); n != 1 || e != api.OK {
		t.Error(n, e)
	}
	l := points()
	for _, a := range l {
		for _, b := range l {
			for _, c := range l {
				if n, e := gauss.Turn(a, b, c); n != sign(cross(minus(b, a), minus(c, a))) || e != api.OK {
					t.Errorf("Turn(%v, %v, %v) = %d %d", a, b, c, n, e)
				}
			}
		}
	}
	// Nearly on the line, as far away as may be.
	for _, d := range []int{-1, 0, 1} {
		if n, e := gauss.Turn(at(-most, -most), at(most, most), at(d, 0)); n != -d || e != api.OK {
			t.Error(d, n, e)
		}
		if n, e := gauss.Turn(at(-most, -most), at(most, most-1), at(most-1+d, most-2)); e != api.OK || n != sign(cross(at(2*most, 2*most-1), at(2*most-1+d, 2*most-2))) {
			t.Error(d, n, e)
		}
	}
	for _, p := range far() {
		for _, x := range [][3]api.Point{{p, at(1, 2), at(4, 0)}, {at(1, 2), p, at(4, 0)}, {at(1, 2), at(4, 0), p}} {
			if n, e := gauss.Turn(x[0], x[1], x[2]); n != 0 || e != api.ErrRange {
				t.Errorf("Turn(%v) = %d %d", x, n, e)
			}
		}
	}
}

// area is the sum in whole numbers.
func area(l []api.Point) int {
	n := 0
	for i, p := range l {
		n += cross(p, l[(i+1)%len(l)])
	}
	return n
}

func TestArea(t *testing.T) {
	for _, x := range []struct {
		l    []api.Point
		want int
	}{
		{nil, 0}, {[]api.Point{}, 0}, {[]api.Point{at(3, 5)}, 0}, {[]api.Point{at(3, 5), at(7, -1)}, 0}, {[]api.Point{at(0, 0), at(4, 0), at(0, 3)}, 12}, {[]api.Point{at(0, 0), at(0, 3), at(4, 0)}, -12}, {[]api.Point{at(-most, -most), at(most, -most), at(most, most), at(-most, most)}, 8 * most * most}, {[]api.Point{at(1, 1), at(3, 1), at(3, 3), at(1, 3), at(1, 1)}, 8},
	} {
		before := slices.Clone(x.l)
		if n, e := gauss.Area(x.l); n != x.want || e != api.OK {
			t.Errorf("Area(%v) = %d %d", x.l, n, e)
		}
		if !slices.Equal(before, x.l) {
			t.Error("the argument was changed")
		}
	}
	r := rand.New(rand.NewSource(9))
	var l []api.Point
	for range 200 {
		l = append(l, at(r.Intn(most)-most/2, r.Intn(most)-most/2))
		want := area(l)
		if n, e := gauss.Area(l); n != want || e != api.OK {
			t.Fatalf("Area of %d points = %d %d, not %d", len(l), n, e, want)
		}
		var moved, turned []api.Point
		for _, p := range l {
			moved = append(moved, at(p.X+most/2, p.Y-most/3))
			q, _ := gauss.Quarter(p, 3)
			turned = append(turned, q)
		}
		n, e := gauss.Area(moved)
		m, f := gauss.Area(turned)
		if n != want || e != api.OK || m != want || f != api.OK {
			t.Fatalf("Area of %d points, moved %d %d, turned %d %d", len(l), n, e, m, f)
		}
	}
}

func TestAreaOfMany(t *testing.T) {
	// A long way round and round: its area has more than 53 bits.
	var l []api.Point
	for i := range api.MaxLines {
		p, _ := gauss.Quarter(at(most-i%3, most-i%5), i)
		l = append(l, p)
	}
	if n, e := gauss.Area(l); n != area(l) || e != api.OK || n < 1<<54 {
		t.Error(n, e, area(l))
	}
	if n, e := gauss.Area(append(l, at(0, 0))); n != 0 || e != api.ErrFull {
		t.Error(n, e)
	}
	if n, e := gauss.Area(append(l, at(most+1, 0))); n != 0 || e != api.ErrFull {
		t.Error(n, e)
	}
	for _, p := range far() {
		for i := range 3 {
			l := []api.Point{at(0, 0), at(9, 0), at(0, 9)}
			l[i] = p
			if n, e := gauss.Area(l); n != 0 || e != api.ErrRange {
				t.Error(l, n, e)
			}
		}
	}
}

func TestTurnMoves(t *testing.T) {
	r := rand.New(rand.NewSource(10))
	for range 300 {
		p := [3]api.Point{at(r.Intn(9)-4, r.Intn(9)-4), at(r.Intn(9)-4, r.Intn(9)-4), at(r.Intn(9)-4, r.Intn(9)-4)}
		want, _ := gauss.Turn(p[0], p[1], p[2])
		for _, d := range []api.Point{at(most-4, 4-most), at(-1000, 7)} {
			if n, _ := gauss.Turn(at(p[0].X+d.X, p[0].Y+d.Y), at(p[1].X+d.X, p[1].Y+d.Y), at(p[2].X+d.X, p[2].Y+d.Y)); n != want {
				t.Errorf("Turn of %v, moved by %v, is %d", p, d, n)
			}
		}
		for n := range 4 {
			a, _ := gauss.Quarter(p[0], n)
			b, _ := gauss.Quarter(p[1], n)
			c, _ := gauss.Quarter(p[2], n)
			if got, _ := gauss.Turn(a, b, c); got != want {
				t.Errorf("Turn of %v, turned by %d quarters, is %d", p, n, got)
			}
		}
	}
}
