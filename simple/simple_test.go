package simple_test

import (
	"bytes"
	"encoding/binary"
	"encoding/hex"
	"math"
	"math/rand"
	"strings"
	"testing"

	"calamus/api"
	"calamus/simple"
)

// digits is bytes told in hexadecimal digits, with spaces.
func digits(s string) []byte {
	b, err := hex.DecodeString(strings.ReplaceAll(s, " ", ""))
	if err != nil {
		panic(err)
	}
	return b
}

// knots is a contour: x, y, and 1 if on the curve.
func knots(n ...int) api.Contour {
	c := make(api.Contour, 0, len(n))
	for i := 0; i < len(n); i += 3 {
		c = append(c, api.Knot{X: n[i], Y: n[i+1], On: n[i+2] == 1})
	}
	return c
}

// same says whether glyphs are the same, nil and empty alike.
func same(a, b api.Glyph) bool {
	if len(a.Shape) != len(b.Shape) || !bytes.Equal(a.Code, b.Code) {
		return false
	}
	for i := range a.Shape {
		if len(a.Shape[i]) != len(b.Shape[i]) {
			return false
		}
		for j := range a.Shape[i] {
			if a.Shape[i][j] != b.Shape[i][j] {
				return false
			}
		}
	}
	return true
}

// deep is a copy of a glyph.
func deep(g api.Glyph) api.Glyph {
	c := api.Glyph{Code: bytes.Clone(g.Code)}
	for _, x := range g.Shape {
		c.Shape = append(c.Shape, append(api.Contour{}, x...))
	}
	return c
}

// spoil changes all that a glyph holds, with the spare room.
func spoil(g api.Glyph) {
	code := g.Code[:cap(g.Code)]
	for i := range code {
		code[i] ^= 0xff
	}
	for _, c := range g.Shape[:cap(g.Shape)] {
		c = c[:cap(c)]
		for i := range c {
			c[i].X += 1000
		}
	}
}

// triangle is the document's example.
const triangle = "0001 0000 0000 0064 012c 0002 0000 31 33 03 64 64 012c"

func TestTriangle(t *testing.T) {
	g := api.Glyph{Shape: api.Outline{knots(0, 0, 1, 100, 0, 1, 0, 300, 1)}}
	b, e := simple.Write(g)
	if e != api.OK || !bytes.Equal(b, digits(triangle)) {
		t.Errorf("% x %d", b, e)
	}
	if got, e := simple.Read(digits(triangle)); e != api.OK || !same(got, g) {
		t.Error(got, e)
	}
}

func TestReadFlags(t *testing.T) {
	for _, x := range []struct {
		b    string
		want api.Outline
		code string
	}{
		{"", nil, ""}, {"0000 1111 2222 3333 4444", nil, ""}, {"0000 1111 2222 3333 4444 ffff 99", nil, ""},
		// One point, at nothing, off and on the curve; the box is not looked at.
		{"0001 1111 2222 3333 4444 0000 0000 30", api.Outline{knots(0, 0, 0)}, ""}, {"0001 1111 2222 3333 4444 0000 0000 31", api.Outline{knots(0, 0, 1)}, ""},
		// Instructions, and what follows the glyph.
		{"0001 1111 2222 3333 4444 0000 0003 abcdef 31 99 99", api.Outline{knots(0, 0, 1)}, "abcdef"},
		// Steps of one byte, up and down, and of two bytes; x without y, and y without x.
		{"0001 0000 0000 0000 0000 0000 0000 16 ff fe", api.Outline{knots(255, -254, 0)}, ""}, {"0001 0000 0000 0000 0000 0000 0000 27 ff fe", api.Outline{knots(-255, 254, 1)}, ""}, {"0001 0000 0000 0000 0000 0000 0000 00 8000 7fff", api.Outline{knots(-32768, 32767, 0)}, ""},
		{"0001 0000 0000 0000 0000 0000 0000 10 8000", api.Outline{knots(0, -32768, 0)}, ""}, {"0001 0000 0000 0000 0000 0000 0000 20 8000", api.Outline{knots(-32768, 0, 0)}, ""}, {"0001 0000 0000 0000 0000 0000 0000 14 07", api.Outline{knots(0, -7, 0)}, ""}, {"0001 0000 0000 0000 0000 0000 0000 22 07", api.Outline{knots(-7, 0, 0)}, ""},
		// Steps of nothing in one byte and in two, and bits without meaning.
		{"0001 0000 0000 0000 0000 0001 0000 c6 36 00 00 00 00", api.Outline{knots(0, 0, 0, 0, 0, 0)}, ""}, {"0001 0000 0000 0000 0000 0000 0000 c1 0000 0001", api.Outline{knots(0, 1, 1)}, ""},
		// Flags stated for further points: none, some, and over the end of a contour.
		{"0001 0000 0000 0000 0000 0000 0000 39 00", api.Outline{knots(0, 0, 1)}, ""}, {"0001 0000 0000 0000 0000 0002 0000 3e 02 01 02 03 04 05 06", api.Outline{knots(1, 4, 0, 3, 9, 0, 6, 15, 0)}, ""},
		{"0003 0000 0000 0000 0000 0000 0002 0003 0000 31 3f 01 32 01 02 03 04 05", api.Outline{knots(0, 0, 1), knots(1, 4, 1, 3, 9, 1), knots(6, 9, 0)}, ""},
	} {
		b := digits(x.b)
		b = append(b, 7)[:len(b)]
		before := bytes.Clone(b)
		want := api.Glyph{Shape: x.want, Code: digits(x.code)}
		g, e := simple.Read(b)
		if e != api.OK || !same(g, want) {
			t.Errorf("%s: %v %d", x.b, g, e)
		}
		other, _ := simple.Read(b)
		spoil(g)
		if !bytes.Equal(b, before) || !same(other, want) {
			t.Errorf("%s: memory is shared", x.b)
		}
	}
}

func TestReadSharesNothing(t *testing.T) {
	g, _ := simple.Read(digits("0003 0000 0000 0000 0000 0000 0002 0003 0000 31 3f 01 32 01 02 03 04 05"))
	g.Shape[0] = append(g.Shape[0], api.Knot{X: 99})
	g.Shape[1] = append(g.Shape[1], api.Knot{X: 99})
	if !same(g, api.Glyph{Shape: api.Outline{knots(0, 0, 1, 99, 0, 0), knots(1, 4, 1, 3, 9, 1, 99, 0, 0), knots(6, 9, 0)}}) {
		t.Error("contours share memory:", g)
	}
}

func TestReadErrors(t *testing.T) {
	const box = " 0000 0000 0000 0000 "
	// Each text is cut after all of its bytes but the last one, and so on; want tells the error of the whole.
	for _, x := range []struct {
		b    string
		want api.Errno
	}{
		{"00", api.ErrShort}, {"ffff 0000 0000 0000 00", api.ErrShort}, {"ffff" + box, api.ErrKind}, {"8000" + box, api.ErrKind}, {"0000 0000 0000 0000 00", api.ErrShort}, {"7fff" + box, api.ErrShort},
		{"0001" + box, api.ErrShort}, {"0001" + box + "00", api.ErrShort}, {"0002" + box + "0000", api.ErrShort}, {"0003" + box + "0001 0000 00", api.ErrShort},
		{"0002" + box + "0001 0001", api.ErrOrder}, {"0002" + box + "0001 0000", api.ErrOrder}, {"0003" + box + "0000 0001 0001", api.ErrOrder}, {"0003" + box + "0005 0004 0009", api.ErrOrder}, {"0002" + box + "ffff 0001", api.ErrOrder}, {"0002" + box + "ffff ffff", api.ErrOrder},
		{"0001" + box + "1000", api.ErrFull}, {"0001" + box + "ffff", api.ErrFull}, {"0002" + box + "0fff 1000", api.ErrFull}, {"0001" + box + "0fff", api.ErrShort},
		{"0001" + box + "0000 00", api.ErrShort}, {"0001" + box + "0000 0001", api.ErrShort}, {"0001" + box + "0000 0002 99", api.ErrShort}, {"0001" + box + "0000 ffff 99", api.ErrShort},
		{"0001" + box + "0000 0000", api.ErrShort}, {"0001" + box + "0001 0000 31", api.ErrShort}, {"0001" + box + "0001 0000 39", api.ErrShort}, {"0001" + box + "0000 0000 39", api.ErrShort}, {"0001" + box + "0002 0000 39 01", api.ErrShort},
		{"0001" + box + "0000 0000 39 01", api.ErrForm}, {"0001" + box + "0002 0000 39 03", api.ErrForm}, {"0001" + box + "0002 0000 31 39 02", api.ErrForm}, {"0001" + box + "0002 0000 39 ff", api.ErrForm}, {"0001" + box + "0002 0000 38 01 38 01", api.ErrForm},
		{"0001" + box + "0000 0000 01", api.ErrShort}, {"0001" + box + "0000 0000 01 00", api.ErrShort}, {"0001" + box + "0000 0000 21 00", api.ErrShort}, {"0001" + box + "0000 0000 33", api.ErrShort}, {"0001" + box + "0000 0000 23", api.ErrShort},
		{"0001" + box + "0000 0000 01 0000 00", api.ErrShort}, {"0001" + box + "0000 0000 01 0000", api.ErrShort}, {"0001" + box + "0000 0000 35", api.ErrShort}, {"0001" + box + "0000 0000 15", api.ErrShort},
		{"0001" + box + "0001 0000 29 01 7fff 0001", api.ErrRange}, {"0001" + box + "0001 0000 29 01 8000 ffff", api.ErrRange}, {"0001" + box + "0001 0000 19 01 7fff 0001", api.ErrRange}, {"0001" + box + "0001 0000 19 01 8000 ffff", api.ErrRange},
		// One by one: x before y, and each x before the next one.
		{"0001" + box + "0002 0000 29 02 7fff 0001", api.ErrRange}, {"0001" + box + "0001 0000 09 01 7fff 0001", api.ErrRange}, {"0001" + box + "0001 0000 09 01 7fff 0000 7fff", api.ErrShort}, {"0001" + box + "0001 0000 09 01 7fff 00", api.ErrShort}, {"0001" + box + "0001 0000 09 01 7fff 0000 7fff 0001", api.ErrRange},
		{"0001" + box + "0001 0000 33 31 ff", api.OK}, {"0001" + box + "0001 0000 29 01 7fff 8000", api.OK}, {"0001" + box + "0002 0000 29 02 7fff 8000 8001", api.OK},
	} {
		g, e := simple.Read(digits(x.b))
		if e != x.want || x.want != api.OK && !same(g, api.Glyph{}) {
			t.Errorf("%s: %v %d, not %d", x.b, g, e, x.want)
		}
	}
	for n := range 21 {
		want := api.ErrShort
		if n == 0 {
			want = api.OK
		}
		if g, e := simple.Read(digits(triangle)[:n]); e != want || !same(g, api.Glyph{}) {
			t.Errorf("the first %d bytes: %v %d", n, g, e)
		}
	}
}

// row is a contour of points that all have the same flag.
func row(n int) api.Contour {
	var c api.Contour
	for i := range n {
		c = append(c, api.Knot{X: 5 * (i + 1), Y: 0, On: true})
	}
	return c
}

func TestWriteRows(t *testing.T) {
	for _, x := range []struct {
		n    int
		want string
	}{{1, "33"}, {2, "3b01"}, {3, "3b02"}, {255, "3bfe"}, {256, "3bff"}, {257, "3bff 33"}, {258, "3bff 3b01"}, {511, "3bff 3bfe"}, {512, "3bff 3bff"}, {513, "3bff 3bff 33"}, {4096, strings.Repeat("3bff", 16)}} {
		c := row(x.n)
		b, e := simple.Write(api.Glyph{Shape: api.Outline{c}})
		want := digits("0001 0005 0000")
		want = binary.BigEndian.AppendUint16(want, uint16(5*x.n))
		want = append(want, 0, 0)
		want = binary.BigEndian.AppendUint16(want, uint16(x.n-1))
		want = append(append(append(want, 0, 0), digits(x.want)...), bytes.Repeat([]byte{5}, x.n)...)
		if e != api.OK || !bytes.Equal(b, want) {
			t.Errorf("%d points: % x %d", x.n, b, e)
		}
	}
	// A row goes on from one contour to the next one.
	b, e := simple.Write(api.Glyph{Shape: api.Outline{row(5)[:3], row(5)[3:]}})
	if want := digits("0002 0005 0000 0019 0000 0002 0004 0000 3b04 0505050505"); e != api.OK || !bytes.Equal(b, want) {
		t.Errorf("% x %d", b, e)
	}
}

func TestWriteSteps(t *testing.T) {
	for _, x := range []struct {
		c    api.Contour
		want string
	}{
		{knots(0, 0, 0), "0000 0000 0000 0000 0000 0000 30"}, {knots(1, 0, 1), "0001 0000 0001 0000 0000 0000 33 01"}, {knots(-1, 0, 1), "ffff 0000 ffff 0000 0000 0000 23 01"}, {knots(0, 1, 1), "0000 0001 0000 0001 0000 0000 35 01"}, {knots(0, -1, 1), "0000 ffff 0000 ffff 0000 0000 15 01"},
		{knots(255, -255, 0), "00ff ff01 00ff ff01 0000 0000 16 ff ff"}, {knots(-255, 255, 0), "ff01 00ff ff01 00ff 0000 0000 26 ff ff"}, {knots(256, -256, 0), "0100 ff00 0100 ff00 0000 0000 00 0100 ff00"}, {knots(-256, 256, 0), "ff00 0100 ff00 0100 0000 0000 00 ff00 0100"},
		{knots(-32768, 32767, 0, -1, 0, 1), "8000 0000 ffff 7fff 0001 0000 00 01 8000 7fff 7fff 8001"}, {knots(-32768, 0, 0, -1, 0, 0), "8000 0000 ffff 0000 0001 0000 28 01 8000 7fff"},
		{knots(9, 9, 1, 9, 9, 1, 9, 9, 0), "0009 0009 0009 0009 0002 0000 37 31 30 09 09"},
	} {
		before := append(api.Contour{}, x.c...)
		b, e := simple.Write(api.Glyph{Shape: api.Outline{x.c}, Code: nil})
		if e != api.OK || !bytes.Equal(b, append([]byte{0, 1}, digits(x.want)...)) {
			t.Errorf("%v: % x %d", x.c, b, e)
		}
		if !same(api.Glyph{Shape: api.Outline{x.c}}, api.Glyph{Shape: api.Outline{before}}) {
			t.Errorf("%v: the argument was changed", before)
		}
	}
	b, e := simple.Write(api.Glyph{Shape: api.Outline{knots(0, 0, 1)}, Code: []byte{1, 2, 3}})
	if e != api.OK || !bytes.Equal(b, digits("0001 0000 0000 0000 0000 0000 0003 010203 31")) {
		t.Errorf("instructions: % x %d", b, e)
	}
}

func TestWriteErrors(t *testing.T) {
	one := knots(0, 0, 1)
	long := func(n int) []byte { return make([]byte, n) }
	for i, x := range []struct {
		o    api.Outline
		code []byte
		want api.Errno
	}{
		{nil, nil, api.OK}, {api.Outline{}, []byte{}, api.OK}, {nil, []byte{1}, api.ErrForm}, {nil, long(65536), api.ErrForm},
		{api.Outline{nil}, nil, api.ErrForm}, {api.Outline{one, {}, one}, nil, api.ErrForm}, {api.Outline{row(4097), nil}, nil, api.ErrForm}, {api.Outline{one, nil}, long(65536), api.ErrForm}, {api.Outline{knots(40000, 0, 1), nil}, nil, api.ErrForm},
		{api.Outline{row(4096)}, nil, api.OK}, {api.Outline{row(4097)}, nil, api.ErrFull}, {api.Outline{row(4096), one}, nil, api.ErrFull}, {api.Outline{row(4000), row(96)}, nil, api.OK}, {api.Outline{row(4096), knots(40000, 0, 1)}, nil, api.ErrFull},
		{api.Outline{one}, long(65535), api.OK}, {api.Outline{one}, long(65536), api.ErrFull}, {api.Outline{knots(40000, 0, 1)}, long(65536), api.ErrFull},
		{api.Outline{knots(32768, 0, 1)}, nil, api.ErrRange}, {api.Outline{knots(-32769, 0, 1)}, nil, api.ErrRange}, {api.Outline{knots(0, 32768, 1)}, nil, api.ErrRange}, {api.Outline{knots(0, -32769, 1)}, nil, api.ErrRange}, {api.Outline{knots(math.MinInt, math.MaxInt, 1)}, nil, api.ErrRange}, {api.Outline{one, knots(0, 32768, 1)}, nil, api.ErrRange}, {api.Outline{knots(32767, 0, 1, 32768, 0, 1)}, nil, api.ErrRange}, {api.Outline{knots(0, -32768, 1, 0, -32769, 1)}, nil, api.ErrRange},
		{api.Outline{knots(1, 0, 1, -32768, 0, 1)}, nil, api.ErrRange}, {api.Outline{knots(0, 0, 1, -32768, 0, 1)}, nil, api.OK}, {api.Outline{knots(-1, 0, 1, 32767, 0, 1)}, nil, api.ErrRange}, {api.Outline{knots(0, 0, 1, 32767, 0, 1)}, nil, api.OK}, {api.Outline{knots(0, 1, 1, 0, -32768, 1)}, nil, api.ErrRange}, {api.Outline{knots(0, -1, 1), knots(0, 32767, 1)}, nil, api.ErrRange}, {api.Outline{knots(0, 1, 1), knots(0, 32767, 1)}, nil, api.OK},
	} {
		g := api.Glyph{Shape: x.o, Code: x.code}
		b, e := simple.Write(g)
		if e != x.want || x.want != api.OK && len(b) != 0 {
			t.Errorf("row %d: %d bytes, %d, not %d", i, len(b), e, x.want)
		}
		if len(x.o) == 0 && len(b) != 0 {
			t.Errorf("row %d: % x", i, b)
		}
		if e == api.OK {
			if got, e := simple.Read(b); e != api.OK || !same(got, g) {
				t.Errorf("row %d: what was written is read with %d", i, e)
			}
		}
	}
}

// encode writes knots in the plainest way: a flag for each, rows found afterwards.
func encode(g api.Glyph) []byte {
	least, most := api.Point{X: 1 << 20, Y: 1 << 20}, api.Point{X: -1 << 20, Y: -1 << 20}
	var flags, xs, ys, ends []byte
	x, y, n := 0, 0, 0
	step := func(d int, short, same byte) (byte, []byte) {
		if d == 0 {
			return same, nil
		}
		if d > 0 && d < 256 {
			return short + same, []byte{byte(d)}
		}
		if d < 0 && d > -256 {
			return short, []byte{byte(-d)}
		}
		return 0, []byte{byte(d >> 8), byte(d)}
	}
	for _, c := range g.Shape {
		for _, k := range c {
			flagX, bytesX := step(k.X-x, 2, 16)
			flagY, bytesY := step(k.Y-y, 4, 32)
			flag := flagX + flagY
			if k.On {
				flag++
			}
			flags, xs, ys = append(flags, flag), append(xs, bytesX...), append(ys, bytesY...)
			x, y, n = k.X, k.Y, n+1
			least = api.Point{X: min(least.X, x), Y: min(least.Y, y)}
			most = api.Point{X: max(most.X, x), Y: max(most.Y, y)}
		}
		ends = append(ends, byte((n-1)>>8), byte(n-1))
	}
	var b []byte
	for _, v := range []int{len(g.Shape), least.X, least.Y, most.X, most.Y} {
		b = append(b, byte(v>>8), byte(v))
	}
	b = append(append(append(b, ends...), byte(len(g.Code)>>8), byte(len(g.Code))), g.Code...)
	for len(flags) > 0 {
		same := len(flags) - len(bytes.TrimLeft(flags, string(flags[:1])))
		if flags[0] >= 128 {
			panic("a flag that is no character")
		}
		same = min(same, 256)
		if same > 1 {
			b = append(b, flags[0]+8, byte(same-1))
		} else {
			b = append(b, flags[0])
		}
		flags = flags[same:]
	}
	return append(append(b, xs...), ys...)
}

func TestRoundTrip(t *testing.T) {
	r := rand.New(rand.NewSource(6))
	for range 400 {
		g := api.Glyph{Code: make([]byte, r.Intn(4))}
		r.Read(g.Code)
		x, y := 0, 0
		for range 1 + r.Intn(5) {
			var c api.Contour
			for range 1 + r.Intn(9) {
				size := []int{1, 2, 3, 260, 600, 16000}[r.Intn(6)]
				x = min(max(x+r.Intn(2*size-1)-size+1, -32768), 32767)
				y = min(max(y+r.Intn(2*size-1)-size+1, -32768), 32767)
				for range 1 + r.Intn(3) {
					c = append(c, api.Knot{X: x, Y: y, On: r.Intn(2) == 0})
				}
			}
			g.Shape = append(g.Shape, c)
		}
		before := deep(g)
		b, e := simple.Write(g)
		if e != api.OK || !bytes.Equal(b, encode(g)) {
			t.Fatalf("%v: % x %d, not % x", g, b, e, encode(g))
		}
		tail := append(bytes.Clone(b), 1, 2, 3)
		if got, e := simple.Read(tail); e != api.OK || !same(got, g) {
			t.Fatalf("%v is read as %v %d", g, got, e)
		}
		for i := range b {
			b[i] ^= 0xff
		}
		if !same(g, before) {
			t.Fatal("the argument was changed, or shares memory")
		}
	}
}

func TestBox(t *testing.T) {
	for _, x := range []struct {
		o           api.Outline
		least, most api.Point
	}{
		{nil, api.Point{}, api.Point{}}, {api.Outline{nil, {}}, api.Point{}, api.Point{}},
		{api.Outline{knots(5, 7, 0)}, api.Point{X: 5, Y: 7}, api.Point{X: 5, Y: 7}}, {api.Outline{knots(-5, -7, 1)}, api.Point{X: -5, Y: -7}, api.Point{X: -5, Y: -7}},
		{api.Outline{nil, knots(5, 7, 0, 9, 3, 1), {}, knots(8, 20, 1)}, api.Point{X: 5, Y: 3}, api.Point{X: 9, Y: 20}},
		{api.Outline{knots(math.MaxInt, math.MinInt, 0, math.MinInt, math.MaxInt, 1)}, api.Point{X: math.MinInt, Y: math.MinInt}, api.Point{X: math.MaxInt, Y: math.MaxInt}},
		{api.Outline{knots(3, -4, 1), knots(1, -9, 0, 2, -1, 0)}, api.Point{X: 1, Y: -9}, api.Point{X: 3, Y: -1}},
	} {
		if least, most := simple.Box(x.o); least != x.least || most != x.most {
			t.Errorf("Box(%v) = %v %v", x.o, least, most)
		}
	}
}
