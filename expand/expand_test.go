package expand_test

import (
	"bytes"
	"math"
	"math/big"
	"math/rand"
	"slices"
	"testing"

	"calamus/api"
	"calamus/compo"
	"calamus/expand"
	"calamus/simple"
)

func at(x, y int) api.Point { return api.Point{X: x, Y: y} }

// knots is a contour: x, y, and 1 if on the curve.
func knots(n ...int) api.Contour {
	var c api.Contour
	for i := 0; i < len(n); i += 3 {
		c = append(c, api.Knot{X: n[i], Y: n[i+1], On: n[i+2] == 1})
	}
	return c
}

// plain is a simple glyph's bytes.
func plain(l ...api.Contour) []byte {
	b, e := simple.Write(api.Glyph{Shape: l})
	if e != api.OK {
		panic(e)
	}
	return b
}

// made is a composite glyph's bytes.
func made(l ...api.Part) []byte {
	b, e := compo.Write(l, nil, at(0, 0), at(0, 0))
	if e != api.OK {
		panic(e)
	}
	return b
}

func turned(glyph, x, y, xx, xy, yx, yy int) api.Part {
	return api.Part{Glyph: glyph, X: x, Y: y, M: [4]int{xx, xy, yx, yy}}
}

func moved(glyph, x, y int) api.Part { return turned(glyph, x, y, 16384, 0, 0, 16384) }

// times is n times the same part.
func times(n int, p api.Part) []api.Part { return slices.Repeat([]api.Part{p}, n) }

// dots is a contour of n knots.
func dots(n int) api.Contour {
	return slices.Repeat(knots(1, 1, 1), n)
}

func same(a, b api.Outline) bool {
	return slices.EqualFunc(a, b, func(a, b api.Contour) bool { return slices.Equal(a, b) })
}

func TestMove(t *testing.T) {
	if got := expand.Move(turned(0, 0, 0, 0, 16384, -16384, 0), at(3, 1)); got != at(-1, 3) {
		t.Error(got)
	}
	for _, x := range []struct {
		p    api.Part
		from api.Point
		want api.Point
	}{
		{moved(9, 10, -10), at(5, 6), at(645, -634)}, {turned(0, 0, 0, 8192, 0, 0, 8192), at(1, -1), at(1, 0)}, {turned(0, 0, 0, 8192, 0, 0, 8192), at(3, -3), at(2, -1)}, {turned(0, 0, 0, 8191, 0, 0, 8191), at(1, -1), at(0, 0)}, {turned(0, 0, 0, 8193, 0, 0, 8193), at(1, -1), at(1, -1)},
		{turned(0, 1, 2, 16384, 0, 16384, 16384), at(100, 1000), at(1164, 1128)}, {turned(0, 1, 2, 16384, 16384, 0, 16384), at(100, 1000), at(164, 1228)}, {turned(0, 0, 0, 0, 0, 0, 0), at(api.MaxSub, -api.MaxSub), at(0, 0)},
	} {
		if got := expand.Move(x.p, x.from); got != x.want {
			t.Errorf("Move(%v, %v) = %v", x.p, x.from, got)
		}
	}
	r := rand.New(rand.NewSource(12))
	number := func() int { return r.Intn(65536) - 32768 }
	coordinate := func() int { return r.Intn(2*api.MaxSub+1) - api.MaxSub }
	rounded := func(a, x, b, y, move int) int {
		sum := new(big.Int).Mul(big.NewInt(int64(a)), big.NewInt(int64(x)))
		sum.Add(sum, new(big.Int).Mul(big.NewInt(int64(b)), big.NewInt(int64(y))))
		sum.Add(sum, big.NewInt(8192))
		// The division of math/big by a positive number rounds down.
		return int(sum.Div(sum, big.NewInt(16384)).Int64()) + 64*move
	}
	for range 2000 {
		p, from := turned(r.Intn(9), number(), number(), number(), number(), number(), number()), at(coordinate(), coordinate())
		want := at(rounded(p.M[0], from.X, p.M[2], from.Y, p.X), rounded(p.M[1], from.X, p.M[3], from.Y, p.Y))
		if got := expand.Move(p, from); got != want {
			t.Fatalf("Move(%v, %v) = %v, not %v", p, from, got, want)
		}
	}
	// Only that it ends is promised of these.
	expand.Move(turned(0, math.MaxInt, math.MinInt, math.MaxInt, math.MinInt, math.MinInt, math.MaxInt), at(math.MinInt, math.MaxInt))
}

// triangle, square and the rest: glyphs that tests refer to by their numbers.
func glyphs() [][]byte {
	return [][]byte{
		plain(knots(0, 0, 1, 100, 0, 1, 0, 300, 1)),
		made(moved(0, 10, -10)),
		made(moved(2, 0, 0)),
		nil,
		{0xff},
		made(moved(0, 1, 0), moved(3, 5, 5), turned(5+1, 0, 2, 0, 16384, -16384, 0)),
		plain(knots(1, 2, 0), knots(3, 4, 1, -5, 6, 0)),
		made(turned(5, 1, 1, 32767, 0, 0, 8192), moved(1, 0, 0)),
		{0, 0, 0, 0, 0, 0, 0, 0, 0, 0},
		made(moved(10, 0, 0)),
		made(moved(9, 0, 0)),
	}
}

func TestOf(t *testing.T) {
	for _, x := range []struct {
		id   int
		want api.Outline
		e    api.Errno
	}{
		{0, api.Outline{knots(0, 0, 1, 6400, 0, 1, 0, 19200, 1)}, api.OK}, {1, api.Outline{knots(640, -640, 1, 7040, -640, 1, 640, 18560, 1)}, api.OK}, {2, nil, api.ErrDeep}, {9, nil, api.ErrDeep}, {10, nil, api.ErrDeep}, {3, nil, api.OK}, {4, nil, api.OK}, {8, nil, api.OK},
		{6, api.Outline{knots(64, 128, 0), knots(192, 256, 1, -320, 384, 0)}, api.OK},
		{5, api.Outline{knots(64, 0, 1, 6464, 0, 1, 64, 19200, 1), knots(-128, 64+128, 0), knots(-256, 192+128, 1, -384, -320+128, 0)}, api.OK},
		// A transformation is rounded at each depth: 32767 / 16384 times x, half of y.
		{7, api.Outline{knots(128+64, 64, 1, 12928+64, 64, 1, 128+64, 9664, 1), knots(-256+64, 96+64, 0), knots(-512+64, 160+64, 1, -768+64, -96+64, 0), knots(640, -640, 1, 7040, -640, 1, 640, 18560, 1)}, api.OK},
		{-1, nil, api.ErrNone}, {11, nil, api.ErrNone}, {math.MaxInt, nil, api.ErrNone}, {math.MinInt, nil, api.ErrNone},
	} {
		l := glyphs()
		o, e := expand.Of(l, x.id)
		if !same(o, x.want) || e != x.e {
			t.Errorf("glyph %d: %v %d", x.id, o, e)
		}
		if !slices.EqualFunc(l, glyphs(), bytes.Equal) {
			t.Errorf("glyph %d: the argument was changed", x.id)
		}
		if len(o) > 1 {
			o[0] = append(o[0], api.Knot{X: 99})
			if !same(o[1:], x.want[1:]) {
				t.Errorf("glyph %d: contours share memory", x.id)
			}
		}
	}
	if o, e := expand.Of(nil, 0); len(o) != 0 || e != api.ErrNone {
		t.Error(o, e)
	}
}

func TestDepth(t *testing.T) {
	// Glyph n is at depth n below glyph 0.
	var l [][]byte
	for i := range 17 {
		l = append(l, made(moved(i+1, 1, 0)))
	}
	l = append(l, plain(knots(0, 0, 1, 1, 0, 1)))
	if o, e := expand.Of(l, 1); e != api.OK || !same(o, api.Outline{knots(16*64, 0, 1, 17*64, 0, 1)}) {
		t.Error(o, e)
	}
	if o, e := expand.Of(l, 0); e != api.ErrDeep || len(o) != 0 {
		t.Error(o, e)
	}
	// Too deep comes ahead of no such glyph, and of bytes that can't be read.
	if o, e := expand.Of(l[:17], 0); e != api.ErrDeep || len(o) != 0 {
		t.Error(o, e)
	}
	if o, e := expand.Of(l[:17], 1); e != api.ErrNone || len(o) != 0 {
		t.Error(o, e)
	}
	l[17] = []byte{0, 1}
	if o, e := expand.Of(l, 0); e != api.ErrDeep || len(o) != 0 {
		t.Error(o, e)
	}
	if o, e := expand.Of(l, 1); e != api.ErrShort || len(o) != 0 {
		t.Error(o, e)
	}
	// The first error that occurs counts, not the deepest.
	l = [][]byte{made(moved(1, 0, 0), moved(0, 0, 0)), {0, 0, 1}, made(moved(2, 0, 0), moved(99, 0, 0)), made(moved(99, 0, 0), moved(3, 0, 0))}
	for id, want := range []api.Errno{api.ErrShort, api.ErrShort, api.ErrDeep, api.ErrNone} {
		if o, e := expand.Of(l, id); e != want || len(o) != 0 {
			t.Errorf("glyph %d: %v %d", id, o, e)
		}
	}
}

func TestVisits(t *testing.T) {
	// The visit of glyph 1 is 65 visits; 63 of them and the first one are 4096.
	l := [][]byte{nil, made(times(64, moved(0, 0, 0))...), made(times(63, moved(1, 0, 0))...), nil, nil, nil, nil}
	l[3] = made(append(times(63, moved(1, 0, 0)), moved(0, 0, 0))...)
	l[4] = made(append(times(63, moved(1, 0, 0)), moved(99, 0, 0))...)
	l[5] = made(append(append([]api.Part{moved(2, 0, 0)}, moved(0, 0, 0)), moved(99, 0, 0))...)
	l[6] = made(times(64, moved(1, 0, 0))...)
	for id, want := range []api.Errno{api.OK, api.OK, api.OK, api.ErrFull, api.ErrNone, api.ErrFull, api.ErrFull} {
		if o, e := expand.Of(l, id); e != want || len(o) != 0 {
			t.Errorf("glyph %d: %v %d, not %d", id, o, e, want)
		}
	}
}

func TestKnots(t *testing.T) {
	l := [][]byte{plain(dots(4096)), plain(dots(1)), plain(dots(2048)), made(moved(2, 0, 0), moved(2, 0, 0)), made(moved(3, 0, 0), moved(1, 0, 0)), made(moved(1, 0, 0), moved(0, 0, 0)), nil, nil, nil, nil}
	// More knots than may be, but another error comes ahead of the end of the visit, or behind it.
	l[6] = made(moved(0, 0, 0), moved(1, 0, 0), moved(99, 0, 0))
	l[7] = made(moved(4, 0, 0), moved(99, 0, 0))
	l[8] = made(turned(4, 32767, 32767, 32767, 32767, 32767, 32767), moved(1, 0, 0))
	l[9] = made(moved(0, 0, 0))
	for id, want := range []api.Errno{api.OK, api.OK, api.OK, api.OK, api.ErrFull, api.ErrFull, api.ErrNone, api.ErrFull, api.ErrFull, api.OK} {
		o, e := expand.Of(l, id)
		if e != want || (len(o) == 0) != (want != api.OK) {
			t.Errorf("glyph %d: %d contours %d, not %d", id, len(o), e, want)
		}
	}
}

func TestRange(t *testing.T) {
	far := plain(knots(32767, -32768, 1))
	up, down := api.Outline{knots(2*32767*64, -2*32768*64, 1)}, api.Outline{knots(0, -2*32768*64, 1)}
	for i, x := range []struct {
		l    [][]byte
		want api.Outline
		e    api.Errno
	}{
		{[][]byte{made(moved(1, 32767, -32768)), far}, up, api.OK}, {[][]byte{made(moved(1, -32767, -32768)), far}, down, api.OK},
		{[][]byte{made(moved(1, 0, -1)), made(moved(2, 32767, -32768)), far}, nil, api.ErrRange}, {[][]byte{made(moved(1, 0, 1)), made(moved(2, 32767, -32768)), far}, api.Outline{knots(2*32767*64, -2*32768*64+64, 1)}, api.OK}, {[][]byte{made(moved(1, 2, 0)), made(moved(2, 32767, -32768)), far}, api.Outline{knots(api.MaxSub, -api.MaxSub, 1)}, api.OK}, {[][]byte{made(moved(1, 3, 0)), made(moved(2, 32767, -32768)), far}, nil, api.ErrRange},
		// Out of range on the way, though not in the end; and an error behind it.
		{[][]byte{made(moved(1, -20000, 0)), made(moved(2, 20000, 0)), made(moved(3, 32767, 0)), far}, nil, api.ErrRange}, {[][]byte{made(moved(1, 3, 0), moved(99, 0, 0)), made(moved(2, 32767, -32768)), far}, nil, api.ErrRange}, {[][]byte{made(moved(99, 3, 0), moved(1, 3, 0)), made(moved(2, 32767, -32768)), far}, nil, api.ErrNone},
		{[][]byte{made(turned(1, 0, 32767, 0, 32767, 0, 0)), far}, nil, api.ErrRange},
	} {
		if o, e := expand.Of(x.l, 0); !same(o, x.want) || e != x.e {
			t.Errorf("row %d: %v %d", i, o, e)
		}
	}
}

func TestBadBytes(t *testing.T) {
	points := made(moved(0, 0, 0))
	points[11] = 0
	for i, x := range []struct {
		b    []byte
		want api.Errno
	}{
		{[]byte{0}, api.OK}, {[]byte{0, 0}, api.ErrShort}, {[]byte{0x7f, 0xff}, api.ErrShort}, {[]byte{0x80, 0}, api.ErrShort}, {[]byte{0xff, 0xff, 0, 0, 0, 0, 0, 0, 0, 0}, api.ErrShort}, {points, api.ErrMatch}, {[]byte{0, 2, 0, 0, 0, 0, 0, 0, 0, 0, 0, 1, 0, 1}, api.ErrOrder}, {[]byte{0, 1, 0, 0, 0, 0, 0, 0, 0, 0, 0x10, 0}, api.ErrFull},
	} {
		if o, e := expand.Of([][]byte{x.b, made(moved(0, 0, 0))}, 0); len(o) != 0 || e != x.want {
			t.Errorf("row %d: %v %d", i, o, e)
		}
		if o, e := expand.Of([][]byte{x.b, made(moved(0, 0, 0))}, 1); len(o) != 0 || e != x.want {
			t.Errorf("row %d, as a part: %v %d", i, o, e)
		}
	}
}
