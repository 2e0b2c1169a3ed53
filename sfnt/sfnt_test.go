package sfnt_test

import (
	"bytes"
	"encoding/binary"
	"fmt"
	"reflect"
	"testing"

	"calamus/api"
	"calamus/sfnt"
)

// sum is the sum of the words of bytes.
func sum(b []byte) uint32 {
	var s uint32
	for i, x := range b {
		s += uint32(x) << (24 - 8*(i%4))
	}
	return s
}

// entry is where a table stands in a file, whatever is true of it.
type entry struct {
	tag                string
	sum, place, length uint32
}

// file is a file with a directory and what follows it.
func file(l []entry, rest []byte) []byte {
	b := []byte{0, 1, 0, 0, 0, byte(len(l)), 0xaa, 0xaa, 0xaa, 0xaa, 0xaa, 0xaa}
	for _, x := range l {
		b = append(b, x.tag...)
		b = binary.BigEndian.AppendUint32(b, x.sum)
		b = binary.BigEndian.AppendUint32(b, x.place)
		b = binary.BigEndian.AppendUint32(b, x.length)
	}
	return append(b, rest...)
}

// count is n small tables.
func count(n int) []api.Table {
	var l []api.Table
	for i := range n {
		l = append(l, api.Table{Tag: fmt.Sprintf("t%03d", i), Data: bytes.Repeat([]byte{byte(i + 1)}, i%7)})
	}
	return l
}

// one is a single table.
func one(tag string, data ...byte) []api.Table { return []api.Table{{Tag: tag, Data: data}} }

// same says whether tables are the same, nil and empty data alike.
func same(a, b []api.Table) bool {
	if len(a) != len(b) {
		return false
	}
	for i := range a {
		if a[i].Tag != b[i].Tag || !bytes.Equal(a[i].Data, b[i].Data) {
			return false
		}
	}
	return true
}

// deep is a copy of tables.
func deep(l []api.Table) []api.Table {
	var c []api.Table
	for _, t := range l {
		c = append(c, api.Table{Tag: t.Tag, Data: bytes.Clone(t.Data)})
	}
	return c
}

// spoil changes all data of tables, with the spare room.
func spoil(l []api.Table) {
	for _, t := range l[:cap(l)] {
		d := t.Data[:cap(t.Data)]
		for i := range d {
			d[i] ^= 0xff
		}
	}
	l = l[:cap(l)]
	for i := range l {
		l[i] = api.Table{Tag: "gone"}
	}
}

func TestExample(t *testing.T) {
	want := []byte{0, 1, 0, 0, 0, 1, 0, 16, 0, 0, 0, 0, 'a', 'b', 'c', 'd', 1, 2, 3, 0, 0, 0, 0, 28, 0, 0, 0, 3, 1, 2, 3, 0}
	l := one("abcd", 1, 2, 3)
	b, e := sfnt.Write(l)
	if !bytes.Equal(b, want) || e != api.OK {
		t.Errorf("% x %d", b, e)
	}
	if got, e := sfnt.Read(want); !same(got, l) || e != api.OK {
		t.Error(got, e)
	}
	want[30]++
	if got, e := sfnt.Read(want); len(got) != 0 || e != api.ErrSum {
		t.Error(got, e)
	}
	// The byte that pads belongs to no table.
	want[30]--
	want[31]++
	if got, e := sfnt.Read(want); !same(got, l) || e != api.OK {
		t.Error(got, e)
	}
}

func TestRight(t *testing.T) {
	pair := func(a, b string) []api.Table { return []api.Table{{Tag: a}, {Tag: b}} }
	for i, x := range []struct {
		l    []api.Table
		want bool
	}{
		{nil, false}, {count(1), true}, {count(2), true}, {count(64), true}, {count(65), false}, {count(300), false},
		{one(""), false}, {one("abc"), false}, {one("abcde"), false}, {one("    "), true}, {one("~~~~"), true},
		{one("\x1fabc"), false}, {one("ab\x7fc"), false}, {one("abc\x1f"), false}, {one("a\x80bc"), false}, {one("abc\n"), false}, {one("é12"), false}, {one("\xff123"), false},
		{pair("aaaa", "aaaa"), false}, {pair("aaab", "aaaa"), false}, {pair("aaaa", "aaab"), true}, {pair("abaa", "aaaz"), false}, {pair("OS/2", "cmap"), true}, {pair("cmap", "OS/2"), false}, {pair("aaaa", "b"), false},
		{[]api.Table{{Tag: "aaaa"}, {Tag: "cccc"}, {Tag: "bbbb"}}, false},
		{one("aaaa", make([]byte, api.MaxFile-28)...), true}, {one("aaaa", make([]byte, api.MaxFile-31)...), true}, {one("aaaa", make([]byte, api.MaxFile-27)...), false}, {one("aaaa", make([]byte, api.MaxFile)...), false},
		{[]api.Table{{Tag: "aaaa", Data: make([]byte, api.MaxFile-48)}, {Tag: "bbbb", Data: []byte{1, 2, 3, 4}}}, true},
		{[]api.Table{{Tag: "aaaa", Data: make([]byte, api.MaxFile-51)}, {Tag: "bbbb", Data: []byte{1}}}, true},
		{[]api.Table{{Tag: "aaaa", Data: make([]byte, api.MaxFile-47)}, {Tag: "bbbb", Data: []byte{1}}}, false},
	} {
		if got := sfnt.Right(x.l); got != x.want {
			t.Errorf("row %d: %v", i, got)
		}
		b, e := sfnt.Write(x.l)
		if !x.want && (len(b) != 0 || e != api.ErrForm) || x.want && (len(b) == 0 || e != api.OK) {
			t.Errorf("row %d: %d bytes, %d", i, len(b), e)
		}
		if len(b) > api.MaxFile {
			t.Errorf("row %d: %d bytes", i, len(b))
		}
	}
}

func TestWriteNumbers(t *testing.T) {
	for n := 1; n <= 64; n++ {
		l := count(n)
		before := deep(l)
		b, e := sfnt.Write(l)
		if e != api.OK || !same(l, before) {
			t.Fatal(n, e)
		}
		power, exponent := 1, 0
		for 2*power <= n {
			power, exponent = 2*power, exponent+1
		}
		want := []byte{0, 1, 0, 0}
		for _, x := range []int{n, 16 * power, exponent, 16*n - 16*power} {
			want = binary.BigEndian.AppendUint16(want, uint16(x))
		}
		place := 12 + 16*n
		var body []byte
		for _, x := range l {
			want = append(want, x.Tag...)
			want = binary.BigEndian.AppendUint32(want, sum(x.Data))
			want = binary.BigEndian.AppendUint32(want, uint32(place))
			want = binary.BigEndian.AppendUint32(want, uint32(len(x.Data)))
			body = append(body, x.Data...)
			for len(body)%4 != 0 {
				body = append(body, 0)
			}
			place = 12 + 16*n + len(body)
		}
		if want = append(want, body...); !bytes.Equal(b, want) {
			t.Errorf("%d tables: % x, not % x", n, b, want)
		}
		if got, e := sfnt.Read(b); e != api.OK || !same(got, l) {
			t.Errorf("%d tables are read as %v %d", n, got, e)
		}
	}
}

func TestAdjustment(t *testing.T) {
	for _, n := range []int{0, 8, 11, 12, 13, 54} {
		l := []api.Table{{Tag: "aaaa", Data: []byte{0xf1, 2, 3}}, {Tag: "head", Data: bytes.Repeat([]byte{0x77}, n)}, {Tag: "zzzz", Data: []byte{9}}}
		before := deep(l)
		b, e := sfnt.Write(l)
		if e != api.OK || !same(l, before) {
			t.Fatal(n, e)
		}
		zeroed := deep(l)
		if n >= 12 {
			copy(zeroed[1].Data[8:], []byte{0, 0, 0, 0})
			if sum(b) != 0xb1b0afba {
				t.Errorf("head of %d bytes: the sum is %#x", n, sum(b))
			}
		}
		if got := binary.BigEndian.Uint32(b[12+16+4:]); got != sum(zeroed[1].Data) {
			t.Errorf("head of %d bytes: its sum is %#x", n, got)
		}
		if got := b[12+48+4 : 12+48+4+n]; n < 12 && !bytes.Equal(got, l[1].Data) {
			t.Errorf("head of %d bytes: % x", n, got)
		}
		got, e := sfnt.Read(b)
		if e != api.OK || !same(got, zeroed) {
			t.Errorf("head of %d bytes is read as %v %d", n, got, e)
		}
		if again, e := sfnt.Write(got); e != api.OK || !bytes.Equal(again, b) {
			t.Errorf("head of %d bytes: another file from what was read", n)
		}
		if n >= 12 {
			// Whatever the adjustment is, it is not looked at.
			b[12+48+4+8] ^= 0x55
			if got, e := sfnt.Read(b); e != api.OK || !same(got, zeroed) {
				t.Errorf("head of %d bytes with another adjustment: %v %d", n, got, e)
			}
			b[12+48+4+7] ^= 1
		} else if n > 0 {
			b[12+48+4+n-1] ^= 1
		}
		if _, e := sfnt.Read(b); n > 0 && e != api.ErrSum {
			t.Errorf("head of %d bytes, spoilt: %d", n, e)
		}
	}
	// Only the table head has an adjustment.
	l := one("heae", bytes.Repeat([]byte{5}, 20)...)
	if b, _ := sfnt.Write(l); !bytes.Equal(b[28:], l[0].Data) {
		t.Error("another table was adjusted")
	}
}

func TestReadErrors(t *testing.T) {
	good := entry{"abcd", 0x01020300, 28, 3}
	data := []byte{1, 2, 3, 0}
	head := func(b ...byte) []byte { return append(b, file([]entry{good}, data)[len(b):]...) }
	second := func(tag string) []byte {
		return file([]entry{{"bbbb", 0x01020300, 44, 3}, {tag, 0x01020300, 44, 3}}, data)
	}
	for i, x := range []struct {
		b    []byte
		want api.Errno
	}{
		{nil, api.ErrShort}, {[]byte{1, 2, 3}, api.ErrShort}, {head()[:11], api.ErrShort}, {head(), api.OK}, {head()[:31], api.OK}, {head()[:30], api.ErrShort}, {head()[:28], api.ErrShort}, {head()[:27], api.ErrShort}, {head()[:12], api.ErrShort},
		{head(1), api.ErrForm}, {head(0, 2), api.ErrForm}, {head(0, 1, 1), api.ErrForm}, {head(0, 1, 0, 1), api.ErrForm}, {[]byte("true\x00\x01\x00\x00\x00\x00\x00\x00"), api.ErrForm}, {head(0, 1, 0, 0, 0, 0), api.ErrForm}, {head(0, 1, 0, 0, 0, 65), api.ErrForm}, {head(0, 1, 0, 0, 1, 1), api.ErrForm}, {head(0, 1, 0, 0, 0, 64), api.ErrShort}, {head(0, 1, 0, 0, 0, 2), api.ErrShort}, {head(0, 1, 0, 0, 0, 0)[:12], api.ErrForm},
		{second("bbbc"), api.OK}, {second("bbbb"), api.ErrForm}, {second("bbba"), api.ErrForm}, {second("cc\x1fc"), api.ErrForm}, {second("cccc"), api.OK}, {second("ccc\x7f"), api.ErrForm}, {second("\xffccc"), api.ErrForm},
		{file([]entry{{"   \x1f", 0x01020300, 28, 3}}, data), api.ErrForm}, {file([]entry{{"   ~", 0x01020300, 28, 3}}, data), api.OK},
		// Of several errors of a table the first one counts, and of several tables the first table's.
		{file([]entry{{"\x00abc", 1, 999, 3}}, data), api.ErrForm}, {file([]entry{{"abcd", 1, 999, 3}}, data), api.ErrShort}, {file([]entry{{"abcd", 1, 28, 3}}, data), api.ErrSum},
		{file([]entry{{"bbbb", 7, 44, 3}, {"aaaa", 1, 999, 3}}, data), api.ErrSum}, {file([]entry{{"bbbb", 7, 46, 3}, {"aaaa", 1, 999, 3}}, data), api.ErrShort},
		// The places of tables: at the end, behind it, anywhere ahead, over one another.
		{file([]entry{{"abcd", 0x01020300, 28, 4}}, data), api.OK}, {file([]entry{{"abcd", 0x01020300, 28, 5}}, data), api.ErrShort}, {file([]entry{{"abcd", 0x01020300, 29, 4}}, data), api.ErrShort}, {file([]entry{{"abcd", 0x01020300, 0xffffffff, 4}}, data), api.ErrShort}, {file([]entry{{"abcd", 0x01020300, 28, 0xffffffff}}, data), api.ErrShort}, {file([]entry{{"abcd", 0x01020300, 0xffffffff, 0xffffffff}}, data), api.ErrShort},
		{file([]entry{{"abcd", 0x00010000, 0, 4}}, data), api.OK}, {file([]entry{{"aaaa", 0x02030000, 45, 2}, {"bbbb", 0x01020000, 44, 2}}, data), api.OK},
		{file([]entry{{"abcd", 0, 32, 0}}, data), api.OK}, {file([]entry{{"abcd", 1, 32, 0}}, data), api.ErrSum},
		{append(head(), make([]byte, api.MaxFile-32)...), api.OK}, {append(head(), make([]byte, api.MaxFile-31)...), api.ErrFull}, {make([]byte, api.MaxFile+1), api.ErrFull}, {make([]byte, api.MaxFile), api.ErrForm},
	} {
		before := bytes.Clone(x.b)
		l, e := sfnt.Read(x.b)
		if e != x.want || (len(l) == 0) != (x.want != api.OK) {
			t.Errorf("row %d: %v %d, not %d", i, len(l), e, x.want)
		}
		if !bytes.Equal(before, x.b) {
			t.Errorf("row %d: the argument was changed", i)
		}
	}
	for at := 6; at < 12; at++ {
		b := head()
		b[at] ^= 0xff
		if _, e := sfnt.Read(b); e != api.OK {
			t.Errorf("byte %d is looked at: %d", at, e)
		}
	}
}

func TestReadOverlapping(t *testing.T) {
	b := file([]entry{{"aaaa", 0x02030000, 45, 2}, {"bbbb", 0x01020300, 44, 3}}, []byte{1, 2, 3, 0})
	l, e := sfnt.Read(b)
	if want := []api.Table{{Tag: "aaaa", Data: []byte{2, 3}}, {Tag: "bbbb", Data: []byte{1, 2, 3}}}; e != api.OK || !same(l, want) {
		t.Fatal(l, e)
	}
	before := bytes.Clone(b)
	l[0].Data = append(l[0].Data, 77)
	l[0].Data[0] = 88
	if !bytes.Equal(l[1].Data, []byte{1, 2, 3}) || !bytes.Equal(b, before) {
		t.Error("tables share memory with one another, or with the file")
	}
	spoil(l)
	if !bytes.Equal(b, before) {
		t.Error("tables share memory with the file")
	}
}

func TestFind(t *testing.T) {
	l := []api.Table{{Tag: "bbbb", Data: []byte{1}}, {Tag: "aaaa", Data: []byte{2}}, {Tag: "bbbb", Data: []byte{3}}, {Tag: "cc"}, {Tag: "", Data: []byte{4}}}
	for _, x := range []struct {
		tag  string
		want []byte
		ok   bool
	}{{"bbbb", []byte{1}, true}, {"aaaa", []byte{2}, true}, {"cc", nil, true}, {"", []byte{4}, true}, {"cccc", nil, false}, {"bbb", nil, false}, {"BBBB", nil, false}} {
		if b, ok := sfnt.Find(l, x.tag); !bytes.Equal(b, x.want) || ok != x.ok {
			t.Errorf("Find(%q) = % x %v", x.tag, b, ok)
		}
	}
	b, _ := sfnt.Find(l, "bbbb")
	b[0] = 99
	if l[0].Data[0] != 1 {
		t.Error("Find shares memory")
	}
	if b, ok := sfnt.Find(nil, "aaaa"); len(b) != 0 || ok {
		t.Error("Find in nothing")
	}
}

func TestWith(t *testing.T) {
	tags := func(l []api.Table) string {
		s := ""
		for _, t := range l {
			s += fmt.Sprintf("%s%d ", t.Tag, t.Data)
		}
		return s
	}
	list := func(tags ...string) []api.Table {
		l := make([]api.Table, 0, len(tags)+4)
		for i, tag := range tags {
			l = append(l, api.Table{Tag: tag, Data: append(make([]byte, 0, 9), byte(i))})
		}
		return l
	}
	for _, x := range []struct {
		l    []api.Table
		tag  string
		want string
	}{
		{nil, "bbbb", "bbbb[50] "}, {list("bbbb"), "bbbb", "bbbb[50] "}, {list("bbbb"), "aaaa", "aaaa[50] bbbb[0] "}, {list("bbbb"), "cccc", "bbbb[0] cccc[50] "},
		{list("aaaa", "cccc"), "bbbb", "aaaa[0] bbbb[50] cccc[1] "}, {list("cccc", "aaaa"), "bbbb", "bbbb[50] cccc[0] aaaa[1] "}, {list("aaaa", "cccc", "aaaa", "dddd"), "bbbb", "aaaa[0] bbbb[50] cccc[1] aaaa[2] dddd[3] "},
		{list("zzzz", "aaaa", "aaaa"), "aaaa", "zzzz[0] aaaa[50] aaaa[2] "}, {list("aa", "cc"), "aab", "aa[0] aab[50] cc[1] "}, {list("aaaa", "bbbb", "cccc"), "bbbb", "aaaa[0] bbbb[50] cccc[2] "},
	} {
		before := deep(x.l)
		data := append(make([]byte, 0, 5), 50)
		got := sfnt.With(x.l, api.Table{Tag: x.tag, Data: data})
		if tags(got) != x.want {
			t.Errorf("With %s in %s: %s", x.tag, tags(x.l), tags(got))
		}
		spare := x.l[len(x.l):cap(x.l)]
		if !same(x.l, before) || !reflect.DeepEqual(spare, make([]api.Table, len(spare))) && len(spare) > 0 {
			t.Errorf("With %s in %s changes its argument", x.tag, tags(before))
		}
		spoil(got)
		if !same(x.l, before) || data[0] != 50 || data[:2][1] != 0 {
			t.Errorf("With %s in %s shares memory", x.tag, tags(before))
		}
	}
}
