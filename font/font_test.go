package font_test

import (
	"bytes"
	"encoding/binary"
	"math"
	"reflect"
	"slices"
	"testing"

	"calamus/api"
	"calamus/font"
	"calamus/sfnt"
)

// set is bytes with numbers of two bytes at places.
func set(b []byte, pairs ...int) []byte {
	b = bytes.Clone(b)
	for i := 0; i < len(pairs); i += 2 {
		binary.BigEndian.PutUint16(b[pairs[i]:], uint16(pairs[i+1]))
	}
	return b
}

// noise is n bytes other than 0.
func noise(n int) []byte {
	b := make([]byte, n)
	for i := range b {
		b[i] = byte(1 + i*11%255)
	}
	return b
}

// headTable has zeros as the adjustment, as a table has that was read.
func headTable(long int) []byte {
	return set(noise(54), 8, 0, 10, 0, 12, 0x5f0f, 14, 0x3cf5, 18, 1000, 36, -1, 38, -2, 40, 3, 42, 4, 50, long)
}

func maxpTable(glyphs int) []byte {
	return set(noise(32), 0, 1, 2, 0, 4, glyphs, 6, 10, 8, 11, 10, 12, 12, 13, 28, 14, 30, 15)
}

func hheaTable(count int) []byte { return set(noise(36), 34, count) }

// sample is a valid font with glyphs of some lengths and so many advances.
func sample(long bool, count int, lengths ...int) api.Font {
	number := 0
	if long {
		number = 1
	}
	f := api.Font{
		Tables: []api.Table{{Tag: "abcd", Data: noise(5)}, {Tag: "head", Data: headTable(number)}, {Tag: "hhea", Data: hheaTable(count)}, {Tag: "maxp", Data: maxpTable(len(lengths))}, {Tag: "zzzz", Data: nil}},
		Head:   api.Head{Em: 1000, XMin: -1, YMin: -2, XMax: 3, YMax: 4, Long: long},
		Maxp:   api.Maxp{Glyphs: len(lengths), Points: 10, Contours: 11, CompPoints: 12, CompContours: 13, Elements: 14, Depth: 15},
		Count:  count,
	}
	for i, n := range lengths {
		f.Glyphs = append(f.Glyphs, bytes.Repeat([]byte{byte(i + 1)}, n))
		f.Metrics = append(f.Metrics, api.Metric{Advance: 500 + min(i, count-1), Bearing: -i})
	}
	return f
}

// plain is a font without the difference between nil and empty.
func plain(f api.Font) api.Font {
	c := f
	c.Tables, c.Metrics, c.Glyphs = nil, nil, nil
	for _, t := range f.Tables {
		c.Tables = append(c.Tables, api.Table{Tag: t.Tag, Data: append([]byte{}, t.Data...)})
	}
	c.Metrics = append(c.Metrics, f.Metrics...)
	for _, g := range f.Glyphs {
		c.Glyphs = append(c.Glyphs, append([]byte{}, g...))
	}
	return c
}

func same(a, b api.Font) bool { return reflect.DeepEqual(plain(a), plain(b)) }

func zero(f api.Font) bool { return same(f, api.Font{}) }

// spoil changes all memory of a font, with the spare room.
func spoil(f api.Font) {
	for _, t := range f.Tables[:cap(f.Tables)] {
		for i := range t.Data[:cap(t.Data)] {
			t.Data[:cap(t.Data)][i] ^= 0xff
		}
	}
	for _, g := range f.Glyphs[:cap(f.Glyphs)] {
		for i := range g[:cap(g)] {
			g[:cap(g)][i] ^= 0xff
		}
	}
	clear(f.Tables[:cap(f.Tables)])
	clear(f.Glyphs[:cap(f.Glyphs)])
	clear(f.Metrics[:cap(f.Metrics)])
}

// change is a font with something changed.
func change(f api.Font, how func(f *api.Font)) api.Font {
	f = plain(f)
	how(&f)
	return f
}

// put is tables with another one in place of the one with its tag, or nothing in its place.
func put(l []api.Table, tag string, data []byte) []api.Table {
	l = slices.DeleteFunc(slices.Clone(l), func(t api.Table) bool { return t.Tag == tag })
	if data != nil {
		l = sfnt.With(l, api.Table{Tag: tag, Data: data})
	}
	return l
}

func TestKind(t *testing.T) {
	for _, x := range []struct {
		b    []byte
		want int
	}{{nil, 0}, {[]byte{}, 0}, {[]byte{0xff}, 0}, {[]byte{0}, 0}, {[]byte{0, 0}, 1}, {[]byte{0x7f, 0xff}, 1}, {[]byte{0x80, 0}, 2}, {[]byte{0xff, 0xff}, 2}, {[]byte{0, 0xff, 0xff}, 1}} {
		if got := font.Kind(x.b); got != x.want {
			t.Errorf("Kind(% x) = %d", x.b, got)
		}
	}
}

func TestPlaces(t *testing.T) {
	for _, x := range []struct {
		lengths, want []int
	}{{nil, []int{0}}, {[]int{0}, []int{0, 0}}, {[]int{3, 0, 7}, []int{0, 3, 3, 10}}} {
		if got := font.Places(sample(true, 1, x.lengths...)); !slices.Equal(got, x.want) {
			t.Errorf("%v: %v", x.lengths, got)
		}
	}
}

// fonts are fonts, each valid or not.
func fonts() []struct {
	f    api.Font
	want bool
} {
	good := sample(false, 2, 4, 0, 6)
	table := func(tag string, data []byte) api.Font {
		return change(good, func(f *api.Font) { f.Tables = put(f.Tables, tag, data) })
	}
	return []struct {
		f    api.Font
		want bool
	}{
		{good, true}, {sample(true, 2, 4, 0, 6), true}, {sample(true, 3, 3, 0, 7), true}, {sample(false, 1, 0), true}, {sample(true, 1, 0), true}, {api.Font{}, false}, {sample(false, 1), false},
		{sample(true, 1024, make([]int, 1024)...), true}, {sample(true, 1, make([]int, 1025)...), false},
		{table("head", nil), false}, {table("maxp", nil), false}, {table("hhea", nil), false}, {table("abcd", nil), true}, {table("gvar", []byte{1}), false}, {table("gvar", []byte{}), false}, {table("loca", []byte{}), false}, {table("glyf", []byte{1}), false}, {table("hmtx", []byte{}), false}, {table("gvas", []byte{1}), true},
		{table("head", headTable(1)), false}, {table("head", headTable(2)), false}, {table("head", headTable(0)[:53]), false}, {table("head", set(headTable(0), 36, 0)), false}, {table("head", append(headTable(0), 1)), true}, {table("head", set(headTable(0), 12, 0)), false},
		{table("maxp", set(maxpTable(3), 30, 16)), false}, {table("maxp", set(maxpTable(3), 28, 16)), false}, {table("maxp", set(maxpTable(3), 0, 0)), false}, {table("maxp", maxpTable(4)), false}, {table("hhea", hheaTable(3)), false}, {table("hhea", hheaTable(0)), false}, {table("hhea", hheaTable(2)[:35]), false},
		{change(good, func(f *api.Font) { f.Head.Em = 1001 }), false}, {change(good, func(f *api.Font) { f.Maxp.Points = 9 }), false}, {change(good, func(f *api.Font) { f.Count = 1 }), false}, {change(good, func(f *api.Font) { f.Head.Long = true }), false},
		{change(good, func(f *api.Font) { f.Glyphs = f.Glyphs[:2] }), false}, {change(good, func(f *api.Font) { f.Metrics = f.Metrics[:2] }), false}, {change(good, func(f *api.Font) { f.Glyphs, f.Metrics = f.Glyphs[:2], f.Metrics[:2] }), false}, {change(good, func(f *api.Font) { f.Metrics = append(f.Metrics, api.Metric{}) }), false},
		{change(good, func(f *api.Font) { f.Maxp.Glyphs = 4; f.Tables = put(f.Tables, "maxp", maxpTable(4)) }), false},
		{change(good, func(f *api.Font) { f.Metrics[2].Advance++ }), false}, {change(good, func(f *api.Font) { f.Metrics[1].Bearing = 32768 }), false}, {change(good, func(f *api.Font) { f.Metrics[0].Advance = -1 }), false}, {change(good, func(f *api.Font) { f.Metrics[0].Advance = 65535 }), true},
		{change(good, func(f *api.Font) { f.Count = 4; f.Tables = put(f.Tables, "hhea", hheaTable(4)) }), false}, {change(good, func(f *api.Font) { f.Count = 0 }), false},
		{sample(false, 1, 3), false}, {sample(false, 1, 3, 3), false}, {sample(false, 1, 131070), true}, {sample(false, 1, 131072), false}, {sample(true, 1, 131072), true},
		{change(good, func(f *api.Font) { f.Tables[0].Tag = "abc" }), false}, {change(good, func(f *api.Font) { f.Tables[0].Tag = "yyyy" }), false}, {change(good, func(f *api.Font) { f.Tables[1], f.Tables[2] = f.Tables[2], f.Tables[1] }), false}, {change(good, func(f *api.Font) { f.Tables = append(f.Tables, api.Table{Tag: "zzzz"}) }), false},
		{sample(true, 1, api.MaxFile-12-8*16-8-54-36-32-2-8-4), true}, {sample(true, 1, api.MaxFile-12-8*16-8-54-36-32-2-8-4+1), false},
		{change(good, func(f *api.Font) {
			for i := range 56 {
				f.Tables = append(f.Tables, api.Table{Tag: "zzz" + string(rune(' '+i))})
			}
			slices.SortFunc(f.Tables, func(a, b api.Table) int { return bytes.Compare([]byte(a.Tag), []byte(b.Tag)) })
		}), true},
		{change(good, func(f *api.Font) {
			for i := range 57 {
				f.Tables = append(f.Tables, api.Table{Tag: "zzz" + string(rune(' '+i))})
			}
			slices.SortFunc(f.Tables, func(a, b api.Table) int { return bytes.Compare([]byte(a.Tag), []byte(b.Tag)) })
		}), false},
	}
}

func TestRight(t *testing.T) {
	for i, x := range fonts() {
		before := plain(x.f)
		if got := font.Right(x.f); got != x.want {
			t.Errorf("row %d: %v", i, got)
		}
		b, e := font.Write(x.f)
		if x.want && (e != api.OK || len(b) == 0) || !x.want && (e != api.ErrForm || len(b) != 0) {
			t.Errorf("row %d: %d bytes, %d", i, len(b), e)
		}
		if !same(x.f, before) {
			t.Errorf("row %d: the argument was changed", i)
		}
		if e != api.OK {
			continue
		}
		got, e := font.Read(b)
		if e != api.OK || !same(got, x.f) || !font.Right(got) {
			t.Errorf("row %d is read with %d", i, e)
		}
		before, file := plain(got), bytes.Clone(b)
		spoil(got)
		if again, e := font.Read(file); !bytes.Equal(b, file) || e != api.OK || !same(again, before) {
			t.Errorf("row %d: memory is shared", i)
		}
	}
}

func TestWrite(t *testing.T) {
	f := sample(false, 2, 4, 0, 6)
	b, e := font.Write(f)
	if e != api.OK {
		t.Fatal(e)
	}
	l, e := sfnt.Read(b)
	if e != api.OK {
		t.Fatal(e)
	}
	for _, x := range []struct {
		tag  string
		want []byte
	}{
		{"abcd", noise(5)}, {"zzzz", nil}, {"maxp", maxpTable(3)}, {"hhea", hheaTable(2)}, {"head", headTable(0)},
		{"loca", []byte{0, 0, 0, 2, 0, 2, 0, 5}}, {"glyf", []byte{1, 1, 1, 1, 3, 3, 3, 3, 3, 3}}, {"hmtx", []byte{1, 244, 0, 0, 1, 245, 0xff, 0xff, 0xff, 0xfe}},
	} {
		if got, ok := sfnt.Find(l, x.tag); !ok || !bytes.Equal(got, x.want) {
			t.Errorf("%s: % x", x.tag, got)
		}
	}
	if len(l) != 8 {
		t.Error(len(l), "tables")
	}
	b, _ = font.Write(sample(true, 1, 0))
	l, _ = sfnt.Read(b)
	glyf, ok := sfnt.Find(l, "glyf")
	places, _ := sfnt.Find(l, "loca")
	if len(glyf) != 0 || !ok || !bytes.Equal(places, make([]byte, 8)) {
		t.Error("a font with one glyph without bytes", glyf, places)
	}
}

// file is the file of a valid font with some of its tables replaced, or taken away.
func file(changes ...api.Table) []byte {
	b, _ := font.Write(sample(false, 2, 4, 0, 6))
	l, _ := sfnt.Read(b)
	for _, t := range changes {
		l = put(l, t.Tag, t.Data)
	}
	b, e := sfnt.Write(l)
	if e != api.OK {
		panic(e)
	}
	return b
}

func TestReadErrors(t *testing.T) {
	table := func(tag string, data []byte) api.Table { return api.Table{Tag: tag, Data: data} }
	places := func(n ...int) []byte {
		return set(make([]byte, 2*len(n)), func() (l []int) {
			for i, x := range n {
				l = append(l, 2*i, x)
			}
			return l
		}()...)
	}
	gone := func(tag string) api.Table { return api.Table{Tag: tag} }
	gvar := table("gvar", []byte{1})
	badHead, badMaxp, badCount := table("head", headTable(2)), table("maxp", set(maxpTable(3), 2, 1)), table("hhea", hheaTable(0))
	for i, x := range []struct {
		b    []byte
		want api.Errno
	}{
		{nil, api.ErrShort}, {make([]byte, api.MaxFile+1), api.ErrFull}, {make([]byte, 12), api.ErrForm}, {file()[:len(file())-9], api.ErrShort}, {append(file()[:len(file())-3], 9, 9, 9), api.ErrSum}, {file(), api.OK},
		{file(gvar), api.ErrKind}, {file(gvar, gone("head")), api.ErrKind}, {file(gvar, badHead), api.ErrKind},
		{file(gone("head")), api.ErrNone}, {file(gone("maxp")), api.ErrNone}, {file(gone("hhea")), api.ErrNone}, {file(gone("hmtx")), api.ErrNone}, {file(gone("loca")), api.ErrNone}, {file(gone("glyf")), api.ErrNone}, {file(gone("glyf"), badHead), api.ErrNone}, {file(gone("maxp"), badHead), api.ErrNone}, {file(gone("hhea"), badHead), api.ErrNone}, {file(gone("abcd")), api.OK},
		{file(badHead), api.ErrForm}, {file(table("head", headTable(0)[:53])), api.ErrShort}, {file(table("maxp", maxpTable(3)[:31])), api.ErrShort}, {file(badMaxp), api.ErrForm}, {file(table("hhea", hheaTable(3)[:35])), api.ErrShort}, {file(badCount), api.ErrForm},
		{file(badHead, table("maxp", []byte{1})), api.ErrForm}, {file(table("head", []byte{1}), badMaxp), api.ErrShort}, {file(badMaxp, table("hhea", []byte{1})), api.ErrForm}, {file(table("maxp", []byte{1}), badCount), api.ErrShort}, {file(badCount, table("maxp", maxpTable(0))), api.ErrForm},
		{file(table("maxp", maxpTable(0))), api.ErrRange}, {file(table("maxp", maxpTable(1025))), api.ErrRange}, {file(table("maxp", maxpTable(65535))), api.ErrRange}, {file(table("maxp", maxpTable(0)), table("loca", []byte{1})), api.ErrRange},
		{file(table("loca", places(0, 2, 2))), api.ErrShort}, {file(table("loca", places(0, 3, 2, 5))), api.ErrOrder}, {file(table("loca", places(0, 2, 2, 6))), api.ErrShort}, {file(table("loca", places(0, 2, 2, 5, 1))), api.OK}, {file(table("loca", places(0, 3, 2, 6)), table("hmtx", []byte{1})), api.ErrOrder}, {file(table("loca", places(0, 2, 2, 6)), table("hhea", hheaTable(4))), api.ErrShort},
		{file(table("hhea", hheaTable(4))), api.ErrArg}, {file(table("hmtx", noise(9))), api.ErrShort}, {file(table("hmtx", noise(10))), api.OK}, {file(table("hmtx", noise(11))), api.OK}, {file(table("maxp", maxpTable(2))), api.OK}, {file(table("maxp", maxpTable(4))), api.ErrShort}, {file(table("maxp", maxpTable(1))), api.ErrArg},
	} {
		before := bytes.Clone(x.b)
		f, e := font.Read(x.b)
		if e != x.want || e != api.OK && !zero(f) {
			t.Errorf("row %d: %d, not %d", i, e, x.want)
		}
		if !bytes.Equal(before, x.b) {
			t.Errorf("row %d: the argument was changed", i)
		}
		if e != api.OK {
			continue
		}
		b, e := font.Write(f)
		if again, f2 := font.Read(b); e != api.OK || !font.Right(f) || f2 != api.OK || !same(again, f) {
			t.Errorf("row %d: what was read is not valid, or not read again", i)
		}
	}
}

func TestReadLocations(t *testing.T) {
	// Bytes ahead of the first location and behind the last one belong to no glyph.
	b := file(api.Table{Tag: "loca", Data: []byte{0, 1, 0, 2, 0, 2, 0, 4}})
	f, e := font.Read(b)
	if e != api.OK || len(f.Glyphs) != 3 || !bytes.Equal(f.Glyphs[0], []byte{1, 1}) || len(f.Glyphs[1]) != 0 || !bytes.Equal(f.Glyphs[2], []byte{3, 3, 3, 3}) {
		t.Fatal(f.Glyphs, e)
	}
	f.Glyphs[0] = append(f.Glyphs[0], 77)
	if !bytes.Equal(f.Glyphs[2], []byte{3, 3, 3, 3}) {
		t.Error("glyphs share memory")
	}
	f.Glyphs[0] = f.Glyphs[0][:2]
	b, e = font.Write(f)
	if again, e2 := font.Read(b); e != api.OK || e2 != api.OK || !same(again, f) {
		t.Error("what was read is read again as another font")
	}
}

func TestSync(t *testing.T) {
	good := sample(false, 2, 4, 0, 6)
	if f, e := font.Sync(good); e != api.OK || !same(f, good) {
		t.Error("a valid font is changed", e)
	}
	wrong := change(good, func(f *api.Font) {
		f.Glyphs = append(f.Glyphs, noise(3))
		f.Metrics = append(f.Metrics, api.Metric{Advance: 501, Bearing: 9})
		f.Head = api.Head{Em: 16, XMin: -5, YMin: -6, XMax: 7, YMax: 8}
		f.Maxp = api.Maxp{Glyphs: 77, Points: 21, Contours: 22, CompPoints: 23, CompContours: 24, Elements: 25, Depth: 26}
		f.Count = 4
	})
	before := plain(wrong)
	f, e := font.Sync(wrong)
	want := change(before, func(f *api.Font) {
		f.Head.Long, f.Maxp.Glyphs = true, 4
		f.Tables[1].Data = set(headTable(0), 18, 16, 36, -5, 38, -6, 40, 7, 42, 8, 50, 1)
		f.Tables[2].Data = hheaTable(4)
		f.Tables[3].Data = set(maxpTable(4), 6, 21, 8, 22, 10, 23, 12, 24, 28, 25, 30, 26)
	})
	if e != api.OK || !same(f, want) || !same(wrong, before) {
		t.Error(f, e)
	}
	spoil(f)
	if !same(wrong, before) {
		t.Error("memory is shared")
	}
	long := sample(true, 1, 2)
	if f, e := font.Sync(long); e != api.OK || !f.Head.Long {
		t.Error("Long doesn't stay", e)
	}
	for _, n := range []int{131070, 131072} {
		f, e := font.Sync(sample(false, 1, n))
		if e != api.OK || f.Head.Long != (n > 131070) || !font.Right(f) {
			t.Error(n, f.Head, e)
		}
	}
}

func TestSyncErrors(t *testing.T) {
	good := sample(false, 2, 4, 0, 6)
	table := func(f api.Font, tag string, data []byte) api.Font {
		return change(f, func(f *api.Font) { f.Tables = put(f.Tables, tag, data) })
	}
	em := change(good, func(f *api.Font) { f.Head.Em = 15 })
	points := change(good, func(f *api.Font) { f.Maxp.Points = 65536 })
	for i, x := range []struct {
		f    api.Font
		want api.Errno
	}{
		{api.Font{}, api.ErrNone}, {table(good, "head", nil), api.ErrNone}, {table(good, "maxp", nil), api.ErrNone}, {table(good, "hhea", nil), api.ErrNone}, {table(em, "hhea", nil), api.ErrNone}, {table(em, "maxp", nil), api.ErrNone},
		{em, api.ErrRange}, {points, api.ErrRange}, {change(good, func(f *api.Font) { f.Count = 0 }), api.ErrRange}, {change(good, func(f *api.Font) { f.Count = math.MaxInt }), api.ErrRange}, {change(good, func(f *api.Font) { f.Head.YMax = 32768 }), api.ErrRange},
		{table(good, "head", noise(53)), api.ErrShort}, {table(good, "maxp", noise(31)), api.ErrShort}, {table(good, "hhea", noise(35)), api.ErrShort}, {table(em, "maxp", noise(31)), api.ErrRange}, {table(points, "hhea", noise(35)), api.ErrRange}, {table(points, "head", noise(53)), api.ErrShort},
		{table(good, "head", noise(54)), api.OK}, {table(good, "maxp", noise(32)), api.OK}, {table(good, "hhea", noise(36)), api.OK},
		{change(good, func(f *api.Font) { f.Glyphs = make([][]byte, 65536) }), api.ErrRange}, {change(good, func(f *api.Font) { f.Glyphs = make([][]byte, 65535) }), api.OK}, {change(good, func(f *api.Font) { f.Glyphs = nil }), api.OK},
	} {
		f, e := font.Sync(x.f)
		if e != x.want || e != api.OK && !zero(f) {
			t.Errorf("row %d: %d, not %d", i, e, x.want)
		}
	}
}

func TestSpareRoom(t *testing.T) {
	// What lies behind the lists of a font, in their spare room, is not written to; nor is the font by one who has its file.
	f := sample(false, 2, 4, 0, 6)
	mark := api.Table{Tag: "mark", Data: []byte{77}}
	f.Tables = append(f.Tables, mark, mark, mark, mark)[:5]
	f.Glyphs = append(f.Glyphs, []byte{1}, []byte{2})[:3]
	f.Glyphs[0] = append(f.Glyphs[0], 55, 55)[:4]
	f.Metrics = append(f.Metrics, api.Metric{Advance: 1}, api.Metric{Advance: 2})[:3]
	before := plain(f)
	b, e := font.Write(f)
	g, e2 := font.Sync(f)
	if e != api.OK || e2 != api.OK || !same(g, f) || !same(f, before) {
		t.Fatal(e, e2)
	}
	for i := range b {
		b[i] ^= 0xff
	}
	spoil(g)
	for _, x := range f.Tables[:9][5:] {
		if x.Tag != "mark" || !bytes.Equal(x.Data, mark.Data) {
			t.Error("tables:", x)
		}
	}
	if glyphs := f.Glyphs[:5]; !bytes.Equal(glyphs[3], []byte{1}) || !bytes.Equal(glyphs[4], []byte{2}) || !bytes.Equal(f.Glyphs[0][:6][4:], []byte{55, 55}) {
		t.Error("glyphs:", glyphs)
	}
	if l := f.Metrics[:5]; l[3].Advance != 1 || l[4].Advance != 2 || !same(f, before) {
		t.Error("metrics:", l)
	}
}
