package be_test

import (
	"bytes"
	"math"
	"testing"

	"calamus/api"
	"calamus/be"
)

// places are offsets and lengths about a string of n bytes, and far from it.
func places(n int) []int {
	l := []int{math.MinInt, math.MinInt + 1, math.MaxInt, math.MaxInt - 1, math.MaxInt - 3, 1 << 32, 1<<32 + 1}
	for i := -3; i <= n+3; i++ {
		l = append(l, i)
	}
	return l
}

// spare is bytes with spare room behind them, which holds a mark.
func spare(b ...byte) []byte {
	all := append(append(make([]byte, 0, len(b)+8), b...), 0xee, 0xee, 0xee, 0xee, 0xee, 0xee, 0xee, 0xee)
	return all[:len(b)]
}

// whole says whether the mark is still there.
func whole(b []byte) bool {
	return bytes.Equal(b[len(b):cap(b)], bytes.Repeat([]byte{0xee}, 8))
}

// apart says whether writing to all of a, with its spare room, leaves b as it is.
func apart(a, b []byte) bool {
	before := bytes.Clone(b)
	a = a[:cap(a)]
	for i := range a {
		a[i] ^= 0xff
	}
	same := bytes.Equal(before, b)
	for i := range a {
		a[i] ^= 0xff
	}
	return same
}

func TestUnsigned(t *testing.T) {
	if n, e := be.U([]byte{1, 2, 3}, 1, 2); n != 515 || e != api.OK {
		t.Error(n, e)
	}
	if n, e := be.U([]byte{1}, 0, 2); n != 0 || e != api.ErrShort {
		t.Error(n, e)
	}
	b := spare(0x81, 0x02, 0xff, 0x80, 0x7f, 0x00, 0xfe)
	for _, at := range places(len(b)) {
		for _, width := range append(places(4), 5, 8, 64) {
			n, e := be.U(b, at, width)
			s, f := be.S(b, at, width)
			if width < 1 || width > 4 {
				if n != 0 || e != api.ErrArg || s != 0 || f != api.ErrArg {
					t.Errorf("width %d at %d: %d %d, %d %d", width, at, n, e, s, f)
				}
				continue
			}
			if at < 0 || at > len(b)-width {
				if n != 0 || e != api.ErrShort || s != 0 || f != api.ErrShort {
					t.Errorf("width %d at %d: %d %d, %d %d", width, at, n, e, s, f)
				}
				continue
			}
			want, top := 0, 1
			for _, x := range b[at : at+width] {
				want, top = 256*want+int(x), 256*top
			}
			if n != want || e != api.OK {
				t.Errorf("U at %d, %d bytes: %d %d, not %d", at, width, n, e, want)
			}
			if b[at] >= 128 {
				want -= top
			}
			if s != want || f != api.OK {
				t.Errorf("S at %d, %d bytes: %d %d, not %d", at, width, s, f, want)
			}
		}
	}
	if n, e := be.U(nil, 0, 1); n != 0 || e != api.ErrShort {
		t.Error("nothing", n, e)
	}
	if n, e := be.U(nil, 0, 0); n != 0 || e != api.ErrArg {
		t.Error("no width of nothing", n, e)
	}
}

func TestSigned(t *testing.T) {
	for _, x := range []struct {
		b    []byte
		want int
	}{{[]byte{0xff, 0xfe}, -2}, {[]byte{0x80}, -128}, {[]byte{0x7f}, 127}, {[]byte{0x80, 0}, -32768}, {[]byte{0x7f, 0xff}, 32767}, {[]byte{0x80, 0, 0}, -1 << 23}, {[]byte{0x7f, 0xff, 0xff}, 1<<23 - 1}, {[]byte{0x80, 0, 0, 0}, -1 << 31}, {[]byte{0xff, 0xff, 0xff, 0xff}, -1}, {[]byte{0x7f, 0xff, 0xff, 0xff}, 1<<31 - 1}} {
		if n, e := be.S(x.b, 0, len(x.b)); n != x.want || e != api.OK {
			t.Errorf("S(% x) = %d %d", x.b, n, e)
		}
	}
}

func TestPut(t *testing.T) {
	for _, x := range []struct {
		n, width int
		want     []byte
	}{
		{-2, 3, []byte{0xff, 0xff, 0xfe}}, {515, 2, []byte{2, 3}}, {515, 1, []byte{3}}, {515, 4, []byte{0, 0, 2, 3}},
		{1, 0, nil}, {1, -1, nil}, {1, math.MinInt, nil},
		{math.MinInt, 8, []byte{0x80, 0, 0, 0, 0, 0, 0, 0}}, {-1, 9, bytes.Repeat([]byte{0xff}, 8)}, {0x0102030405060708, math.MaxInt, []byte{1, 2, 3, 4, 5, 6, 7, 8}},
		{0x0102030405060708, 7, []byte{2, 3, 4, 5, 6, 7, 8}}, {0x0102030405060708, 5, []byte{4, 5, 6, 7, 8}},
	} {
		if b := be.Put(x.n, x.width); !bytes.Equal(b, x.want) {
			t.Errorf("Put(%d, %d) = % x", x.n, x.width, b)
		}
	}
	if a, b := be.Put(7, 4), be.Put(7, 4); !apart(a, b) {
		t.Error("two results share memory")
	}
}

func TestCut(t *testing.T) {
	b := spare(1, 2, 3, 4, 5)
	for _, at := range places(len(b)) {
		for _, n := range places(len(b)) {
			got, e := be.Cut(b, at, n)
			if at < 0 || n < 0 || at > len(b) || n > len(b)-at {
				if len(got) != 0 || e != api.ErrShort {
					t.Errorf("Cut at %d, %d bytes: % x %d", at, n, got, e)
				}
				continue
			}
			if !bytes.Equal(got, b[at:at+n]) || e != api.OK {
				t.Errorf("Cut at %d, %d bytes: % x %d", at, n, got, e)
			}
			if !apart(got, b[:cap(b)]) {
				t.Errorf("Cut at %d, %d bytes shares memory", at, n)
			}
		}
	}
	if !whole(b) || !bytes.Equal(b, []byte{1, 2, 3, 4, 5}) {
		t.Error("the argument was changed")
	}
}

func TestLay(t *testing.T) {
	b := spare(1, 2, 3, 4, 5)
	for _, at := range places(len(b)) {
		for n := range 8 {
			over := spare([]byte{21, 22, 23, 24, 25, 26, 27, 28}[:n]...)
			got, e := be.Lay(b, at, over)
			if at < 0 || at > len(b) || n > len(b)-at {
				if len(got) != 0 || e != api.ErrShort {
					t.Errorf("Lay at %d, %d bytes: % x %d", at, n, got, e)
				}
				continue
			}
			want := append(append(append([]byte{}, b[:at]...), over...), b[at+n:]...)
			if !bytes.Equal(got, want) || e != api.OK {
				t.Errorf("Lay at %d, %d bytes: % x %d", at, n, got, e)
			}
			if !apart(got, b[:cap(b)]) || !apart(got, over[:cap(over)]) || !whole(over) {
				t.Errorf("Lay at %d, %d bytes shares memory", at, n)
			}
		}
	}
	if !whole(b) || !bytes.Equal(b, []byte{1, 2, 3, 4, 5}) {
		t.Error("the argument was changed")
	}
}

func TestPad(t *testing.T) {
	for n := range 40 {
		b := spare(bytes.Repeat([]byte{7}, n)...)
		for _, to := range append(places(20), 16, 17, 18) {
			got := be.Pad(b, to)
			step := max(1, min(16, to))
			want := bytes.Clone(b)
			for len(want)%step != 0 {
				want = append(want, 0)
			}
			if !bytes.Equal(got, want) {
				t.Errorf("Pad of %d bytes to %d: % x", n, to, got)
			}
			if !apart(got, b[:cap(b)]) {
				t.Errorf("Pad of %d bytes to %d shares memory", n, to)
			}
		}
		if !whole(b) {
			t.Error("the argument was changed")
		}
	}
}

func TestReadingWhatWasPut(t *testing.T) {
	for width := 1; width <= 4; width++ {
		for _, n := range []int{0, 1, 2, 127, 128, 255, 256, 32767, 32768, 65535, 65536, 1<<31 - 1, 1 << 31, 1<<32 - 1} {
			if n < 1<<(8*width) {
				if m, e := be.U(be.Put(n, width), 0, width); m != n || e != api.OK {
					t.Errorf("%d in %d bytes: %d %d", n, width, m, e)
				}
			}
			for _, s := range []int{n, -n, -n - 1} {
				if s >= -1<<(8*width-1) && s < 1<<(8*width-1) {
					if m, e := be.S(be.Put(s, width), 0, width); m != s || e != api.OK {
						t.Errorf("%d in %d bytes: %d %d", s, width, m, e)
					}
				}
			}
		}
	}
}
