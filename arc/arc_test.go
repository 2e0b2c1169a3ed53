package arc_test

import (
	"math"
	"math/big"
	"math/rand"
	"slices"
	"testing"

	"calamus/api"
	"calamus/arc"
)

const (
	most    = api.MaxSub
	mostLen = api.MaxHalf
)

func at(x, y int) api.Point { return api.Point{X: x, Y: y} }

// nearest says whether n is part times r, divided by the length of d, to the nearest integer, halves away from 0.
func nearest(n, part, r int, d api.Point) bool {
	if part < 0 {
		n, part = -n, -part
	}
	if n < 0 {
		return false
	}
	num := func(l ...int) *big.Int {
		p := big.NewInt(1)
		for _, x := range l {
			p.Mul(p, big.NewInt(int64(x)))
		}
		return p
	}
	square := new(big.Int).Add(num(d.X, d.X), num(d.Y, d.Y))
	exact := num(4, part, part, r, r)
	// (2n-1)^2 times the square is not greater than exact, and (2n+1)^2 times it is.
	low := new(big.Int).Mul(num(2*n-1, 2*n-1), square)
	high := new(big.Int).Mul(num(2*n+1, 2*n+1), square)
	return (n == 0 || low.Cmp(exact) <= 0) && high.Cmp(exact) > 0
}

// directions are directions: short ones, the longest ones, and any.
func directions() []api.Point {
	l := []api.Point{at(1, 0), at(0, 1), at(-1, 0), at(0, -1), at(1, 1), at(-1, 1), at(3, 4), at(-4, 3), at(1, -7), at(2*most, 2*most), at(-2*most, 2*most), at(2*most, -1), at(1, -2*most), at(-2*most, 0), at(0, 2*most), at(20, 21), at(119, -120)}
	r := rand.New(rand.NewSource(35))
	for range 80 {
		size := 1 << r.Intn(24)
		d := at(r.Intn(2*size+1)-size, r.Intn(2*size+1)-size)
		if d != at(0, 0) {
			l = append(l, d)
		}
	}
	return l
}

// lengths are lengths.
func lengths() []int {
	l := []int{1, 2, 3, 5, 10, 64, 99, 383, 384, 385, 1535, 1536, 1537, 4096, mostLen - 1, mostLen}
	r := rand.New(rand.NewSource(36))
	for range 20 {
		l = append(l, 1+r.Intn(1<<r.Intn(19)))
	}
	return l
}

func TestAlong(t *testing.T) {
	for _, x := range []struct {
		d    api.Point
		r    int
		want api.Point
	}{
		{at(3, 4), 10, at(6, 8)}, {at(1, 1), 1, at(1, 1)}, {at(-1, 1), 1, at(-1, 1)}, {at(1, -1), 10, at(7, -7)}, {at(5, 0), 7, at(7, 0)}, {at(0, -5), 7, at(0, -7)}, {at(-2*most, 2*most), mostLen, at(-185364, 185364)},
		// Halves: 3 of 5 times 5 halves, 4 of 5 times 5 eighths and so on.
		{at(3, 4), 5, at(3, 4)}, {at(7, 24), 25, at(7, 24)}, {at(3, -4), 1, at(1, -1)}, {at(24, 7), 1, at(1, 0)}, {at(4, 3), 2, at(2, 1)}, {at(6, 8), 4, at(2, 3)}, {at(44, 33), 30, at(24, 18)},
	} {
		if p, e := arc.Along(x.d, x.r); p != x.want || e != api.OK {
			t.Errorf("Along(%v, %d) = %v %d", x.d, x.r, p, e)
		}
	}
	for _, d := range directions() {
		for _, r := range lengths() {
			p, e := arc.Along(d, r)
			if e != api.OK || !nearest(p.X, d.X, r, d) || !nearest(p.Y, d.Y, r, d) {
				t.Fatalf("Along(%v, %d) = %v %d", d, r, p, e)
			}
			if length := math.Hypot(float64(p.X), float64(p.Y)); math.Abs(length-float64(r)) >= 1 {
				t.Fatalf("Along(%v, %d) = %v: its length is %v", d, r, p, length)
			}
			q, e := arc.Normal(d, r)
			if want, _ := arc.Along(at(-d.Y, d.X), r); q != want || e != api.OK {
				t.Fatalf("Normal(%v, %d) = %v %d", d, r, q, e)
			}
			if r > 1 && d.X*q.Y-d.Y*q.X <= 0 {
				t.Fatalf("Normal(%v, %d) = %v doesn't lead to the left", d, r, q)
			}
		}
	}
	// Exact halves: the hypotenuse times an odd number of halves.
	for _, x := range []struct{ a, b, c int }{{3, 4, 5}, {5, 12, 13}, {8, 15, 17}, {20, 21, 29}} {
		for r := 1; r < 200; r++ {
			p, _ := arc.Along(at(x.a, -x.b), r)
			if want := at((2*x.a*r+x.c)/(2*x.c), -(2*x.b*r+x.c)/(2*x.c)); p != want {
				t.Errorf("Along(%v, %d) = %v, not %v", x, r, p, want)
			}
		}
	}
	if p, _ := arc.Along(at(2, 0), 1); p != at(1, 0) {
		t.Error(p)
	}
}

func TestAlongErrors(t *testing.T) {
	wrongLengths := []int{0, -1, mostLen + 1, math.MaxInt, math.MinInt}
	far := []api.Point{at(2*most+1, 0), at(0, 2*most+1), at(-2*most-1, 5), at(5, -2*most-1), at(math.MaxInt, 0), at(0, math.MaxInt), at(math.MinInt, 0), at(0, math.MinInt), at(math.MinInt, math.MinInt)}
	check := func(d api.Point, r int, want api.Errno) {
		p, e := arc.Along(d, r)
		q, f := arc.Normal(d, r)
		if p != at(0, 0) || e != want || q != at(0, 0) || f != want {
			t.Errorf("%v, %d: %v %d, %v %d, not %d", d, r, p, e, q, f, want)
		}
	}
	for _, r := range wrongLengths {
		check(at(1, 2), r, api.ErrArg)
		check(at(0, 0), r, api.ErrArg)
		check(far[0], r, api.ErrArg)
	}
	for _, r := range []int{1, 77, mostLen} {
		check(at(0, 0), r, api.ErrForm)
		for _, d := range far {
			check(d, r, api.ErrRange)
		}
	}
}

func TestSteps(t *testing.T) {
	for r := 1; r <= mostLen; r++ {
		m := arc.Steps(r)
		if m < 1 || 384*m*m < r || m > 1 && 384*(m-1)*(m-1) >= r {
			t.Fatalf("Steps(%d) = %d", r, m)
		}
	}
	for _, r := range []int{0, -1, mostLen + 1, math.MaxInt, math.MinInt} {
		if m := arc.Steps(r); m != 0 {
			t.Errorf("Steps(%d) = %d", r, m)
		}
	}
	if arc.Steps(384) != 1 || arc.Steps(385) != 2 {
		t.Error(arc.Steps(384), arc.Steps(385))
	}
}

// disc is a disc side by side.
func disc(c api.Point, r int) []api.Point {
	m := arc.Steps(r)
	var l []api.Point
	add := func(x, y int) {
		v, _ := arc.Along(at(x, y), r)
		l = append(l, at(c.X+v.X, c.Y+v.Y))
	}
	for y := -m; y < m; y++ {
		add(m, y)
	}
	for x := m; x > -m; x-- {
		add(x, m)
	}
	for y := m; y > -m; y-- {
		add(-m, y)
	}
	for x := -m; x < m; x++ {
		add(x, -m)
	}
	l = slices.Compact(l)
	if len(l) > 1 && l[len(l)-1] == l[0] {
		l = l[:len(l)-1]
	}
	return l
}

func TestDisc(t *testing.T) {
	want := []api.Point{at(7, -7), at(10, 0), at(7, 7), at(0, 10), at(-7, 7), at(-10, 0), at(-7, -7), at(0, -10)}
	if l, e := arc.Disc(at(0, 0), 10); e != api.OK || !slices.Equal(l, want) {
		t.Error(l, e)
	}
	for _, c := range []api.Point{at(0, 0), at(5, -7), at(most, most), at(-most, most), at(most, -most)} {
		for _, r := range lengths() {
			l, e := arc.Disc(c, r)
			if e != api.OK || !slices.Equal(l, disc(c, r)) {
				t.Fatalf("Disc(%v, %d) = %v %d", c, r, l, e)
			}
			for i, p := range l {
				q := l[(i+1)%len(l)]
				a, b := at(p.X-c.X, p.Y-c.Y), at(q.X-c.X, q.Y-c.Y)
				if a.X*b.Y-a.Y*b.X <= 0 {
					t.Fatalf("Disc(%v, %d): point %d doesn't lead counterclockwise", c, r, i)
				}
				// The middle of a side is what lies most inside, and each point less than a unit off the circle.
				inner := math.Hypot(float64(a.X+b.X)/2, float64(a.Y+b.Y)/2)
				if inner < float64(r)-50 || math.Abs(math.Hypot(float64(a.X), float64(a.Y))-float64(r)) >= 1 {
					t.Fatalf("Disc(%v, %d): side %d lies %v inside", c, r, i, float64(r)-inner)
				}
			}
		}
	}
	if l, _ := arc.Disc(at(0, 0), mostLen); len(l) != 8*27 {
		t.Error(len(l))
	}
}

func TestDiscErrors(t *testing.T) {
	for _, x := range []struct {
		c    api.Point
		r    int
		want api.Errno
	}{
		{at(0, 0), 0, api.ErrArg}, {at(0, 0), -5, api.ErrArg}, {at(0, 0), mostLen + 1, api.ErrArg}, {at(most+1, 0), 0, api.ErrArg}, {at(0, 0), math.MaxInt, api.ErrArg}, {at(0, 0), math.MinInt, api.ErrArg}, {at(most+1, 0), 1, api.ErrRange}, {at(0, most+1), 1, api.ErrRange}, {at(-most-1, 0), mostLen, api.ErrRange}, {at(0, math.MinInt), 5, api.ErrRange},
	} {
		if l, e := arc.Disc(x.c, x.r); len(l) != 0 || e != x.want {
			t.Errorf("Disc(%v, %d) = %v %d", x.c, x.r, l, e)
		}
	}
}
