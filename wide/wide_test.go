package wide_test

import (
	"math"
	"math/big"
	"math/rand"
	"testing"

	"calamus/api"
	"calamus/wide"
)

var (
	least = wide.Int{Hi: math.MinInt64}
	most  = wide.Int{Hi: math.MaxInt64, Lo: math.MaxUint64}
)

// value is the number that an Int stands for.
func value(a wide.Int) *big.Int {
	n := new(big.Int).Lsh(big.NewInt(a.Hi), 64)
	return n.Add(n, new(big.Int).SetUint64(a.Lo))
}

// modulo is the Int that differs from n by a multiple of 2^128.
func modulo(n *big.Int) wide.Int {
	m := new(big.Int).Mod(n, new(big.Int).Lsh(big.NewInt(1), 128))
	lo := new(big.Int).And(m, new(big.Int).SetUint64(math.MaxUint64))
	return wide.Int{Hi: int64(new(big.Int).Rsh(m, 64).Uint64()), Lo: lo.Uint64()}
}

// smalls are numbers of 64 bits: the edges, and others of many lengths.
func smalls() []int64 {
	l := []int64{0, 1, -1, 2, -2, 3, math.MaxInt64, math.MinInt64, math.MaxInt64 - 1, math.MinInt64 + 1, 1 << 32, -1 << 32, 1<<32 - 1, 1<<31 - 1}
	r := rand.New(rand.NewSource(1))
	for range 60 {
		l = append(l, int64(r.Uint64())>>r.Intn(64))
	}
	return l
}

// wides are numbers of 128 bits.
func wides() []wide.Int {
	l := []wide.Int{least, most, {Hi: 1}, {Hi: -1}, {Hi: 0, Lo: math.MaxUint64}, {Hi: 0, Lo: 1 << 63}, {Hi: -1, Lo: 1 << 63}, {Hi: -1, Lo: 1<<63 - 1}, {Hi: math.MinInt64, Lo: 1}, {Hi: math.MaxInt64}}
	for _, n := range smalls() {
		l = append(l, wide.Int{Hi: n >> 63, Lo: uint64(n)})
	}
	r := rand.New(rand.NewSource(2))
	for range 80 {
		l = append(l, wide.Int{Hi: int64(r.Uint64()) >> r.Intn(64), Lo: r.Uint64()})
	}
	return l
}

func TestOf(t *testing.T) {
	for _, n := range smalls() {
		a := wide.Of(n)
		if value(a).Cmp(big.NewInt(n)) != 0 {
			t.Errorf("Of(%d) = %v", n, a)
		}
		if m, ok := wide.Small(a); m != n || !ok {
			t.Errorf("Small(Of(%d)) = %d %v", n, m, ok)
		}
	}
}

func TestSmall(t *testing.T) {
	for _, a := range wides() {
		want := value(a)
		n, ok := wide.Small(a)
		if ok != want.IsInt64() || ok && big.NewInt(n).Cmp(want) != 0 || !ok && n != 0 {
			t.Errorf("Small(%v) = %d %v", a, n, ok)
		}
	}
	if n, ok := wide.Small(wide.Mul(1<<40, 1<<40)); n != 0 || ok {
		t.Error("Small of 2^80", n, ok)
	}
}

func TestAddSubNeg(t *testing.T) {
	for _, a := range wides() {
		if got, want := wide.Neg(a), modulo(new(big.Int).Neg(value(a))); got != want {
			t.Errorf("Neg(%v) = %v, not %v", a, got, want)
		}
		for _, b := range wides() {
			if got, want := wide.Add(a, b), modulo(new(big.Int).Add(value(a), value(b))); got != want {
				t.Errorf("Add(%v, %v) = %v, not %v", a, b, got, want)
			}
			if got, want := wide.Sub(a, b), modulo(new(big.Int).Sub(value(a), value(b))); got != want {
				t.Errorf("Sub(%v, %v) = %v, not %v", a, b, got, want)
			}
		}
	}
	if wide.Neg(least) != least || wide.Add(most, wide.Of(1)) != least || wide.Sub(least, wide.Of(1)) != most {
		t.Error("sums don't wrap around")
	}
}

func TestMul(t *testing.T) {
	if got := wide.Mul(-1<<40, 1<<40); got != (wide.Int{Hi: -65536}) {
		t.Error("-2^40 times 2^40:", got)
	}
	for _, a := range smalls() {
		for _, b := range smalls() {
			want := new(big.Int).Mul(big.NewInt(a), big.NewInt(b))
			if got := wide.Mul(a, b); value(got).Cmp(want) != 0 {
				t.Errorf("Mul(%d, %d) = %v", a, b, got)
			}
		}
	}
}

func TestCmpSign(t *testing.T) {
	for _, a := range wides() {
		if got := wide.Sign(a); got != value(a).Sign() {
			t.Errorf("Sign(%v) = %d", a, got)
		}
		for _, b := range wides() {
			if got := wide.Cmp(a, b); got != value(a).Cmp(value(b)) {
				t.Errorf("Cmp(%v, %v) = %d", a, b, got)
			}
		}
	}
}

func TestDiv(t *testing.T) {
	if q, r, e := wide.Div(wide.Of(-7), 2); q != wide.Of(-4) || r != 1 || e != api.OK {
		t.Error("Div(-7, 2):", q, r, e)
	}
	for _, a := range wides() {
		for _, d := range smalls() {
			q, r, e := wide.Div(a, d)
			if d < 1 {
				if q != (wide.Int{}) || r != 0 || e != api.ErrArg {
					t.Errorf("Div(%v, %d) = %v %d %d", a, d, q, r, e)
				}
				continue
			}
			// The division of math/big by a positive number rounds down.
			wantQ, wantR := new(big.Int).DivMod(value(a), big.NewInt(d), new(big.Int))
			if e != api.OK || value(q).Cmp(wantQ) != 0 || big.NewInt(r).Cmp(wantR) != 0 {
				t.Errorf("Div(%v, %d) = %v %d %d", a, d, q, r, e)
			}
		}
	}
}

func TestRoot(t *testing.T) {
	l := wides()
	for _, n := range []uint64{1, 2, 3, 9, 10, 1<<32 - 1, 1 << 32, 13043817825332782212, 1<<63 - 1, 1 << 63, 12345678901234567890} {
		square := new(big.Int).Mul(new(big.Int).SetUint64(n), new(big.Int).SetUint64(n))
		for i := range 3 {
			l = append(l, modulo(new(big.Int).Add(square, big.NewInt(int64(i-1)))))
		}
	}
	for _, a := range append(l, wide.Of(99)) {
		n, e := wide.Root(a)
		if value(a).Sign() < 0 {
			if n != 0 || e != api.ErrArg {
				t.Errorf("Root(%v) = %d %d", a, n, e)
			}
		} else if want := new(big.Int).Sqrt(value(a)); e != api.OK || new(big.Int).SetUint64(n).Cmp(want) != 0 {
			t.Errorf("Root(%v) = %d %d, not %v", a, n, e, want)
		}
	}
}

func TestLaws(t *testing.T) {
	l := wides()
	for i, a := range l {
		b, c := l[(i+7)%len(l)], l[(i+31)%len(l)]
		if wide.Add(wide.Add(a, b), c) != wide.Add(c, wide.Add(b, a)) {
			t.Errorf("the order of additions matters: %v %v %v", a, b, c)
		}
	}
	for i, n := range smalls() {
		parts := wide.Add(wide.Mul(n>>20<<20, int64(i)), wide.Mul(n&(1<<20-1), int64(i)))
		if wide.Mul(n, int64(i)) != parts {
			t.Errorf("the product of %d and %d is not the sum of its parts'", n, i)
		}
		if n > 0 {
			a := l[i]
			q, r, _ := wide.Div(a, n)
			lo := wide.Mul(int64(q.Lo&(1<<32-1)), n)
			mid := wide.Mul(int64(q.Lo>>32), n)
			high := wide.Int{Hi: q.Hi * n}
			mid = wide.Int{Hi: mid.Hi<<32 | int64(mid.Lo>>32), Lo: mid.Lo << 32}
			if got := wide.Add(wide.Add(lo, mid), wide.Add(high, wide.Of(r))); got != a {
				t.Errorf("%v divided by %d doesn't multiply back: %v", a, n, got)
			}
		}
	}
}
