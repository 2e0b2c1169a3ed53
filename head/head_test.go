package head_test

import (
	"bytes"
	"encoding/binary"
	"math"
	"testing"

	"calamus/api"
	"calamus/head"
)

// noise is n bytes, all of them other than 0, with spare room.
func noise(n int) []byte {
	b := make([]byte, n, n+9)
	for i := range b {
		b[i] = byte(1 + i*7%255)
	}
	return b
}

// set is bytes with numbers of two bytes at places.
func set(b []byte, pairs ...int) []byte {
	b = bytes.Clone(b)
	for i := 0; i < len(pairs); i += 2 {
		binary.BigEndian.PutUint16(b[pairs[i]:], uint16(pairs[i+1]))
	}
	return b
}

// headTable is a right table head of n bytes.
func headTable(n int) []byte {
	return set(noise(n), 12, 0x5f0f, 14, 0x3cf5, 18, 1000, 50, 1)
}

func maxpTable(n int) []byte { return set(noise(n), 0, 1, 2, 0) }

// checkPut says whether a table was put as it should be: newly, and nothing else changed.
func checkPut(t *testing.T, name string, b, before, got, want []byte) {
	t.Helper()
	if !bytes.Equal(got, want) {
		t.Errorf("%s: % x, not % x", name, got, want)
	}
	got = got[:cap(got)]
	for i := range got {
		got[i] ^= 0xff
	}
	if !bytes.Equal(b, before) || !bytes.Equal(b[len(b):cap(b)], make([]byte, cap(b)-len(b))) {
		t.Errorf("%s: the argument was changed, or shares memory", name)
	}
}

func TestHead(t *testing.T) {
	good := api.Head{Em: 1000, XMin: -2, YMin: -32768, XMax: 32767, YMax: 5, Long: true}
	b := set(headTable(54), 36, -2, 38, -32768, 40, 32767, 42, 5)
	for i, x := range []struct {
		b    []byte
		want api.Head
		e    api.Errno
	}{
		{b, good, api.OK}, {append(bytes.Clone(b), 1, 2, 3), good, api.OK}, {b[:53], api.Head{}, api.ErrShort}, {nil, api.Head{}, api.ErrShort}, {make([]byte, 53), api.Head{}, api.ErrShort},
		{set(b, 12, 0x5f0e), api.Head{}, api.ErrForm}, {set(b, 12, 0x5e0f), api.Head{}, api.ErrForm}, {set(b, 14, 0x3cf4), api.Head{}, api.ErrForm}, {set(b, 14, 0x3df5), api.Head{}, api.ErrForm}, {make([]byte, 54), api.Head{}, api.ErrForm},
		{set(b, 18, 15), api.Head{}, api.ErrForm}, {set(b, 18, 16385), api.Head{}, api.ErrForm}, {set(b, 18, 0), api.Head{}, api.ErrForm}, {set(b, 18, 65535), api.Head{}, api.ErrForm},
		{set(b, 18, 16), api.Head{Em: 16, XMin: -2, YMin: -32768, XMax: 32767, YMax: 5, Long: true}, api.OK}, {set(b, 18, 16384), api.Head{Em: 16384, XMin: -2, YMin: -32768, XMax: 32767, YMax: 5, Long: true}, api.OK},
		{set(b, 50, 2), api.Head{}, api.ErrForm}, {set(b, 50, 256), api.Head{}, api.ErrForm}, {set(b, 50, 257), api.Head{}, api.ErrForm}, {set(b, 50, 65535), api.Head{}, api.ErrForm},
		{set(b, 50, 0), api.Head{Em: 1000, XMin: -2, YMin: -32768, XMax: 32767, YMax: 5}, api.OK},
	} {
		if h, e := head.Head(x.b); h != x.want || e != x.e {
			t.Errorf("row %d: %v %d", i, h, e)
		}
	}
}

func TestPutHead(t *testing.T) {
	good := api.Head{Em: 2048, XMin: -1, YMin: -32768, XMax: 32767, YMax: 0, Long: true}
	for _, n := range []int{54, 55, 80} {
		for _, long := range []bool{false, true} {
			b, h := noise(n), good
			h.Long = long
			number := 0
			if long {
				number = 1
			}
			before := bytes.Clone(b)
			got, e := head.PutHead(b, h)
			if e != api.OK {
				t.Fatal(e)
			}
			want := set(b, 18, 2048, 36, -1, 38, -32768, 40, 32767, 42, 0, 50, number)
			checkPut(t, "PutHead", b, before, got, want)
			if got, e := head.Head(set(want, 12, 0x5f0f, 14, 0x3cf5)); got != h || e != api.OK {
				t.Error("what was put is read as", got, e)
			}
		}
	}
	change := func(f func(h *api.Head)) api.Head {
		h := good
		f(&h)
		return h
	}
	for i, h := range []api.Head{
		change(func(h *api.Head) { h.Em = 15 }), change(func(h *api.Head) { h.Em = 16385 }), change(func(h *api.Head) { h.Em = -1 }), change(func(h *api.Head) { h.Em = math.MaxInt }), change(func(h *api.Head) { h.Em = 65536 + 1000 }),
		change(func(h *api.Head) { h.XMin = -32769 }), change(func(h *api.Head) { h.YMin = -32769 }), change(func(h *api.Head) { h.XMax = -32769 }), change(func(h *api.Head) { h.YMax = math.MinInt }),
		change(func(h *api.Head) { h.XMin = 32768 }), change(func(h *api.Head) { h.YMin = 32768 }), change(func(h *api.Head) { h.XMax = 32768 }), change(func(h *api.Head) { h.YMax = 65536 }), {},
	} {
		if b, e := head.PutHead(noise(54), h); len(b) != 0 || e != api.ErrRange {
			t.Errorf("row %d: % x %d", i, b, e)
		}
		if b, e := head.PutHead(noise(53), h); len(b) != 0 || e != api.ErrShort {
			t.Errorf("row %d, too short: % x %d", i, b, e)
		}
	}
	for _, em := range []int{16, 16384} {
		h := good
		h.Em = em
		if b, e := head.PutHead(noise(54), h); e != api.OK || !bytes.Equal(b, set(noise(54), 18, em, 36, -1, 38, -32768, 40, 32767, 42, 0, 50, 1)) {
			t.Error(em, e)
		}
	}
	if b, e := head.PutHead(noise(53), good); len(b) != 0 || e != api.ErrShort {
		t.Error("too short", b, e)
	}
}

func TestMaxp(t *testing.T) {
	want := api.Maxp{Glyphs: 65535, Points: 2, Contours: 3, CompPoints: 4, CompContours: 5, Elements: 6, Depth: 32768}
	b := set(maxpTable(32), 4, 65535, 6, 2, 8, 3, 10, 4, 12, 5, 28, 6, 30, 32768)
	for i, x := range []struct {
		b    []byte
		want api.Maxp
		e    api.Errno
	}{
		{b, want, api.OK}, {append(bytes.Clone(b), 9), want, api.OK}, {b[:31], api.Maxp{}, api.ErrShort}, {nil, api.Maxp{}, api.ErrShort}, {make([]byte, 31), api.Maxp{}, api.ErrShort}, {[]byte{0, 0, 0x50, 0, 0, 5}, api.Maxp{}, api.ErrShort},
		{set(b, 0, 0), api.Maxp{}, api.ErrForm}, {set(b, 0, 2), api.Maxp{}, api.ErrForm}, {set(b, 0, 257), api.Maxp{}, api.ErrForm}, {set(b, 2, 1), api.Maxp{}, api.ErrForm}, {set(b, 2, 256), api.Maxp{}, api.ErrForm}, {set(b, 0, 0, 2, 0x5000), api.Maxp{}, api.ErrForm},
		{set(make([]byte, 32), 0, 1), api.Maxp{}, api.OK},
	} {
		if m, e := head.Maxp(x.b); m != x.want || e != x.e {
			t.Errorf("row %d: %v %d", i, m, e)
		}
	}
}

func TestPutMaxp(t *testing.T) {
	for _, m := range []api.Maxp{{}, {Glyphs: 1, Points: 2, Contours: 3, CompPoints: 4, CompContours: 5, Elements: 6, Depth: 7}, {Glyphs: 65535, Points: 65535, Contours: 65535, CompPoints: 65535, CompContours: 65535, Elements: 65535, Depth: 65535}} {
		for _, n := range []int{32, 33, 60} {
			b := noise(n)
			before := bytes.Clone(b)
			got, e := head.PutMaxp(b, m)
			if e != api.OK {
				t.Fatal(e)
			}
			want := set(b, 4, m.Glyphs, 6, m.Points, 8, m.Contours, 10, m.CompPoints, 12, m.CompContours, 28, m.Elements, 30, m.Depth)
			checkPut(t, "PutMaxp", b, before, got, want)
			if got, e := head.Maxp(set(want, 0, 1, 2, 0)); got != m || e != api.OK {
				t.Error("what was put is read as", got, e)
			}
		}
	}
	for _, bad := range []int{-1, 65536, math.MinInt, math.MaxInt, 1 << 32} {
		for i, m := range []api.Maxp{{Glyphs: bad}, {Points: bad}, {Contours: bad}, {CompPoints: bad}, {CompContours: bad}, {Elements: bad}, {Depth: bad}} {
			if b, e := head.PutMaxp(noise(32), m); len(b) != 0 || e != api.ErrRange {
				t.Errorf("%d in field %d: % x %d", bad, i, b, e)
			}
			if b, e := head.PutMaxp(noise(31), m); len(b) != 0 || e != api.ErrShort {
				t.Errorf("%d in field %d, too short: % x %d", bad, i, b, e)
			}
		}
	}
}

func TestCount(t *testing.T) {
	for i, x := range []struct {
		b []byte
		n int
		e api.Errno
	}{
		{set(noise(36), 34, 5), 5, api.OK}, {set(noise(36), 34, 65535), 65535, api.OK}, {set(noise(36), 34, 256), 256, api.OK}, {set(noise(40), 34, 1), 1, api.OK},
		{set(noise(36), 34, 0), 0, api.ErrForm}, {set(noise(40), 34, 0), 0, api.ErrForm}, {noise(35), 0, api.ErrShort}, {make([]byte, 35), 0, api.ErrShort}, {nil, 0, api.ErrShort},
	} {
		if n, e := head.Count(x.b); n != x.n || e != x.e {
			t.Errorf("row %d: %d %d", i, n, e)
		}
	}
}

func TestPutCount(t *testing.T) {
	if b, e := head.PutCount(make([]byte, 36), 5); e != api.OK || !bytes.Equal(b, append(make([]byte, 35), 5)) {
		t.Error(b, e)
	}
	for _, n := range []int{1, 5, 255, 256, 65535} {
		for _, size := range []int{36, 37, 50} {
			b := noise(size)
			before := bytes.Clone(b)
			got, e := head.PutCount(b, n)
			if e != api.OK {
				t.Fatal(n, e)
			}
			want := set(b, 34, n)
			checkPut(t, "PutCount", b, before, got, want)
			if m, e := head.Count(want); m != n || e != api.OK {
				t.Error("what was put is read as", m, e)
			}
		}
	}
	for _, n := range []int{0, -1, 65536, math.MinInt, math.MaxInt} {
		if b, e := head.PutCount(noise(36), n); len(b) != 0 || e != api.ErrRange {
			t.Error(n, b, e)
		}
		if b, e := head.PutCount(noise(35), n); len(b) != 0 || e != api.ErrShort {
			t.Error(n, b, e)
		}
	}
}
