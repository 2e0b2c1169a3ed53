package compo_test

import (
	"bytes"
	"encoding/hex"
	"math"
	"math/rand"
	"slices"
	"strings"
	"testing"

	"calamus/api"
	"calamus/compo"
)

// digits is bytes told in hexadecimal digits, with spaces.
func digits(s string) []byte {
	b, err := hex.DecodeString(strings.ReplaceAll(s, " ", ""))
	if err != nil {
		panic(err)
	}
	return b
}

const top = "ffff 0000 0000 0000 0000 "

// part is a part that is only moved.
func part(glyph, x, y int) api.Part { return turned(glyph, x, y, 16384, 0, 0, 16384) }

// turned is a part with an M.
func turned(glyph, x, y, xx, xy, yx, yy int) api.Part {
	return api.Part{Glyph: glyph, X: x, Y: y, M: [4]int{xx, xy, yx, yy}}
}

// many is n parts.
func many(n int) []api.Part {
	l := make([]api.Part, n)
	for i := range l {
		l[i] = part(i, i, -i)
	}
	return l
}

var none api.Point

func TestExample(t *testing.T) {
	l := []api.Part{part(5, 10, -10)}
	b, e := compo.Write(l, nil, none, none)
	if want := digits(top + "0002 0005 0a f6"); e != api.OK || !bytes.Equal(b, want) {
		t.Errorf("% x %d", b, e)
	}
	if got, code, e := compo.Read(b); e != api.OK || !slices.Equal(got, l) || len(code) != 0 {
		t.Error(got, code, e)
	}
	b[11] = 0
	if got, code, e := compo.Read(b); e != api.ErrMatch || len(got) != 0 || len(code) != 0 {
		t.Error(got, code, e)
	}
}

func TestRead(t *testing.T) {
	for _, x := range []struct {
		b    string
		l    []api.Part
		code string
	}{
		// Whatever the box is, and whatever the first number below 0 is.
		{"8000 1111 2222 3333 4444 0002 ffff 80 7f", []api.Part{part(65535, -128, 127)}, ""}, {top + "0002 0005 0a f6 99 99", []api.Part{part(5, 10, -10)}, ""},
		{top + "0003 0005 8000 7fff", []api.Part{part(5, -32768, 32767)}, ""}, {top + "0003 0005 0001 ffff", []api.Part{part(5, 1, -1)}, ""},
		// M: one number, two, four, and which flag goes ahead of which.
		{top + "000a 0001 00 00 c000", []api.Part{turned(1, 0, 0, -16384, 0, 0, -16384)}, ""}, {top + "0042 0001 00 00 7fff 8000", []api.Part{turned(1, 0, 0, 32767, 0, 0, -32768)}, ""}, {top + "0082 0001 00 00 0001 0002 0003 fffc", []api.Part{turned(1, 0, 0, 1, 2, 3, -4)}, ""},
		{top + "00ca 0001 00 00 0007", []api.Part{turned(1, 0, 0, 7, 0, 0, 7)}, ""}, {top + "00c2 0001 00 00 0007 0008", []api.Part{turned(1, 0, 0, 7, 0, 0, 8)}, ""}, {top + "004b 0001 0100 0200 0007", []api.Part{turned(1, 256, 512, 7, 0, 0, 7)}, ""}, {top + "008a 0001 00 00 0000", []api.Part{turned(1, 0, 0, 0, 0, 0, 0)}, ""},
		// Flags without meaning.
		{top + "fe16 0001 02 03", []api.Part{part(1, 2, 3)}, ""},
		// Several parts, and instructions, which only the last one's flags tell of.
		{top + "0022 0001 02 03 0023 0004 0005 0006 0002 0007 08 09", []api.Part{part(1, 2, 3), part(4, 5, 6), part(7, 8, 9)}, ""}, {top + "0122 0001 02 03 0002 0007 08 09 0001 aa", []api.Part{part(1, 2, 3), part(7, 8, 9)}, ""},
		{top + "0102 0001 02 03 0002 aabb cc", []api.Part{part(1, 2, 3)}, "aabb"}, {top + "0102 0001 02 03 0000", []api.Part{part(1, 2, 3)}, ""}, {top + "0022 0001 02 03 010a 0001 00 00 0007 0001 55", []api.Part{part(1, 2, 3), turned(1, 0, 0, 7, 0, 0, 7)}, "55"},
	} {
		b := digits(x.b)
		before := bytes.Clone(b)
		l, code, e := compo.Read(b)
		if e != api.OK || !slices.Equal(l, x.l) || !bytes.Equal(code, digits(x.code)) {
			t.Errorf("%s: %v % x %d", x.b, l, code, e)
		}
		for i := range code[:cap(code)] {
			code[:cap(code)][i] ^= 0xff
		}
		if !bytes.Equal(b, before) {
			t.Errorf("%s: the argument was changed, or shares memory", x.b)
		}
	}
}

func TestReadErrors(t *testing.T) {
	rest := strings.Repeat("0022 0001 02 03 ", 63)
	for _, x := range []struct {
		b    string
		want api.Errno
	}{
		{"", api.ErrShort}, {"0000 0000 0000 0000 00", api.ErrShort}, {"ffff 0000 0000 0000 00", api.ErrShort}, {"0000 0000 0000 0000 0000", api.ErrKind}, {"0001 0000 0000 0000 0000 00", api.ErrKind}, {"7fff 0000 0000 0000 0000", api.ErrKind}, {top, api.ErrShort},
		{top + "00", api.ErrShort}, {top + "0000 00", api.ErrShort}, {top + "0002 0001", api.ErrShort}, {top + "0000 0001", api.ErrMatch}, {top + "fffd 0001", api.ErrMatch}, {top + "0002 0001 00", api.ErrShort}, {top + "0003 0001 0000 00", api.ErrShort},
		{top + "000a 0001 00 00 00", api.ErrShort}, {top + "0042 0001 00 00 0000 00", api.ErrShort}, {top + "0082 0001 00 00 0000 0000 0000 00", api.ErrShort}, {top + "000b 0001 0000 0000 00", api.ErrShort}, {top + "0083 0001 0000 0000 0000 0000 0000 00", api.ErrShort},
		{top + "0022 0001 00 00", api.ErrShort}, {top + "0022 0001 00 00 0000 0001", api.ErrMatch}, {top + "0020 0001 00 00 0002", api.ErrMatch},
		{top + "0102 0001 00 00", api.ErrShort}, {top + "0102 0001 00 00 00", api.ErrShort}, {top + "0102 0001 00 00 0001", api.ErrShort}, {top + "0102 0001 00 00 ffff 00", api.ErrShort},
		{top + rest + "0002 0001 02 03", api.OK}, {top + rest + "0022 0001 02 03 0002 0001 02 03", api.ErrFull}, {top + rest + "0022 0001 02 03", api.ErrFull}, {top + rest + "0022 0001 02", api.ErrShort}, {top + rest + "0102 0001 02 03", api.ErrShort}, {top + rest + "0122 0001 02 03", api.ErrFull},
	} {
		l, code, e := compo.Read(digits(x.b))
		if e != x.want || e != api.OK && (len(l) != 0 || len(code) != 0) {
			t.Errorf("%s: %v % x %d, not %d", x.b, l, code, e, x.want)
		}
	}
}

func TestWrite(t *testing.T) {
	for _, x := range []struct {
		l    []api.Part
		code string
		want string
	}{
		{[]api.Part{part(65535, 127, -128)}, "", "0002 ffff 7f 80"}, {[]api.Part{part(0, 128, 0)}, "", "0003 0000 0080 0000"}, {[]api.Part{part(0, 0, 128)}, "", "0003 0000 0000 0080"}, {[]api.Part{part(0, -129, 0)}, "", "0003 0000 ff7f 0000"}, {[]api.Part{part(0, 0, -129)}, "", "0003 0000 0000 ff7f"}, {[]api.Part{part(0, -32768, 32767)}, "", "0003 0000 8000 7fff"},
		{[]api.Part{turned(1, 2, 3, 7, 0, 0, 7)}, "", "000a 0001 02 03 0007"}, {[]api.Part{turned(1, 2, 3, 0, 0, 0, 0)}, "", "000a 0001 02 03 0000"}, {[]api.Part{turned(1, 2, 3, 16384, 0, 0, -16384)}, "", "0042 0001 02 03 4000 c000"}, {[]api.Part{turned(1, 2, 3, 16384, 1, 0, 16384)}, "", "0082 0001 02 03 4000 0001 0000 4000"}, {[]api.Part{turned(1, 2, 3, 16384, 0, 1, 16384)}, "", "0082 0001 02 03 4000 0000 0001 4000"}, {[]api.Part{turned(1, 2, 3, -32768, 32767, -32768, 32767)}, "", "0082 0001 02 03 8000 7fff 8000 7fff"}, {[]api.Part{turned(1, 2, 300, 5, 6, 7, 8)}, "", "0083 0001 0002 012c 0005 0006 0007 0008"},
		{[]api.Part{part(1, 2, 3), part(4, 500, 6), turned(7, 8, 9, 1, 0, 0, 2)}, "", "0022 0001 02 03 0023 0004 01f4 0006 0042 0007 08 09 0001 0002"},
		{[]api.Part{part(1, 2, 3)}, "aabbcc", "0102 0001 02 03 0003 aabbcc"}, {[]api.Part{part(1, 2, 3), turned(4, 5, 6, 9, 0, 0, 9)}, "77", "0022 0001 02 03 010a 0004 05 06 0009 0001 77"},
	} {
		before, code := slices.Clone(x.l), digits(x.code)
		b, e := compo.Write(x.l, code, api.Point{X: -1, Y: 2}, api.Point{X: -32768, Y: 32767})
		want := digits("ffff ffff 0002 8000 7fff" + x.want)
		if e != api.OK || !bytes.Equal(b, want) {
			t.Errorf("%v: % x %d, not %s", x.l, b, e, x.want)
		}
		for i := range b {
			b[i] ^= 0xff
		}
		if !slices.Equal(x.l, before) || !bytes.Equal(code, digits(x.code)) {
			t.Errorf("%v: an argument was changed, or shares memory", x.l)
		}
	}
}

func TestWriteErrors(t *testing.T) {
	one := []api.Part{part(1, 2, 3)}
	bad := []api.Part{part(-1, 0, 0)}
	long := make([]byte, 65536)
	at := func(x, y int) api.Point { return api.Point{X: x, Y: y} }
	for i, x := range []struct {
		l           []api.Part
		code        []byte
		least, most api.Point
		want        api.Errno
	}{
		{nil, nil, none, none, api.ErrForm}, {[]api.Part{}, long, at(99999, 0), none, api.ErrForm},
		{many(64), nil, none, none, api.OK}, {many(65), nil, none, none, api.ErrFull}, {append(many(64), bad...), nil, none, none, api.ErrFull}, {one, long, none, none, api.ErrFull}, {bad, long, none, none, api.ErrFull}, {one, long, at(99999, 0), none, api.ErrFull}, {one, long[:65535], none, none, api.OK},
		{bad, nil, none, none, api.ErrRange}, {[]api.Part{part(65536, 0, 0)}, nil, none, none, api.ErrRange}, {[]api.Part{part(0, 32768, 0)}, nil, none, none, api.ErrRange}, {[]api.Part{part(0, -32769, 0)}, nil, none, none, api.ErrRange}, {[]api.Part{part(0, 0, 32768)}, nil, none, none, api.ErrRange}, {[]api.Part{part(0, 0, math.MinInt)}, nil, none, none, api.ErrRange}, {append(many(3), bad...), nil, none, none, api.ErrRange}, {append(bad, many(3)...), nil, none, none, api.ErrRange},
		{[]api.Part{turned(0, 0, 0, 32768, 0, 0, 0)}, nil, none, none, api.ErrRange}, {[]api.Part{turned(0, 0, 0, 0, 32768, 0, 0)}, nil, none, none, api.ErrRange}, {[]api.Part{turned(0, 0, 0, 0, 0, -32769, 0)}, nil, none, none, api.ErrRange}, {[]api.Part{turned(0, 0, 0, 0, 0, 0, -32769)}, nil, none, none, api.ErrRange}, {[]api.Part{turned(0, 0, 0, math.MaxInt, 0, 0, math.MaxInt)}, nil, none, none, api.ErrRange},
		{one, nil, at(32768, 0), none, api.ErrRange}, {one, nil, at(0, -32769), none, api.ErrRange}, {one, nil, none, at(-32769, 0), api.ErrRange}, {one, nil, none, at(0, 32768), api.ErrRange}, {one, nil, at(-32768, 32767), at(32767, -32768), api.OK},
	} {
		b, e := compo.Write(x.l, x.code, x.least, x.most)
		if e != x.want || (len(b) == 0) != (x.want != api.OK) {
			t.Errorf("row %d: %d bytes, %d, not %d", i, len(b), e, x.want)
		}
		if e != api.OK {
			continue
		}
		if l, code, e := compo.Read(append(b, 9, 9)); e != api.OK || !slices.Equal(l, x.l) || !bytes.Equal(code, x.code) {
			t.Errorf("row %d: what was written is read as %v, %d bytes, %d", i, l, len(code), e)
		}
	}
}

func TestRoundTrip(t *testing.T) {
	r := rand.New(rand.NewSource(7))
	number := func() int { return r.Intn(65536)>>r.Intn(17) - 32768>>r.Intn(17) }
	for range 500 {
		var l []api.Part
		for range 1 + r.Intn(4) {
			p := part(r.Intn(65536), min(number(), 32767), min(number(), 32767))
			switch r.Intn(4) {
			case 0:
				n := min(number(), 32767)
				p.M = [4]int{n, 0, 0, n}
			case 1:
				p.M = [4]int{min(number(), 32767), 0, 0, min(number(), 32767)}
			case 2:
				p.M = [4]int{min(number(), 32767), min(number(), 32767), r.Intn(3) - 1, min(number(), 32767)}
			}
			l = append(l, p)
		}
		code := make([]byte, r.Intn(3))
		r.Read(code)
		b, e := compo.Write(l, code, none, none)
		if e != api.OK {
			t.Fatal(l, e)
		}
		b = append(b, make([]byte, r.Intn(3))...)
		if got, gotCode, e := compo.Read(b); e != api.OK || !slices.Equal(got, l) || !bytes.Equal(gotCode, code) {
			t.Fatalf("%v % x is read as %v % x %d", l, code, got, gotCode, e)
		}
	}
}
