package loca_test

import (
	"bytes"
	"encoding/binary"
	"math"
	"slices"
	"testing"

	"calamus/api"
	"calamus/loca"
)

// shorts and longs are numbers of two and of four bytes.
func shorts(l ...int) []byte {
	b := []byte{}
	for _, n := range l {
		b = binary.BigEndian.AppendUint16(b, uint16(n))
	}
	return b
}

func longs(l ...int) []byte {
	b := []byte{}
	for _, n := range l {
		b = binary.BigEndian.AppendUint32(b, uint32(n))
	}
	return b
}

// metrics are advances, each followed by a bearing.
func metrics(n ...int) []api.Metric {
	var l []api.Metric
	for i := 0; i < len(n); i += 2 {
		l = append(l, api.Metric{Advance: n[i], Bearing: n[i+1]})
	}
	return l
}

func TestRead(t *testing.T) {
	many := make([]byte, 4*1026)
	for i, x := range []struct {
		b      []byte
		long   bool
		glyphs int
		want   []int
		e      api.Errno
	}{
		{shorts(0, 2, 5), false, 2, []int{0, 4, 10}, api.OK}, {shorts(0, 2, 5), false, 1, []int{0, 4}, api.OK}, {shorts(0, 2, 5), false, 0, []int{0}, api.OK}, {shorts(7, 7, 65535), false, 2, []int{14, 14, 131070}, api.OK},
		{longs(0, 2, 5), true, 2, []int{0, 2, 5}, api.OK}, {longs(1, 1<<32-1, 1<<32-1), true, 2, []int{1, 1<<32 - 1, 1<<32 - 1}, api.OK}, {longs(0, 2, 1), true, 1, []int{0, 2}, api.OK},
		{shorts(0, 2, 5)[:5], false, 2, nil, api.ErrShort}, {longs(0, 2, 5)[:11], true, 2, nil, api.ErrShort}, {shorts(0, 2, 5, 7, 9), true, 2, nil, api.ErrShort}, {nil, false, 0, nil, api.ErrShort}, {nil, true, 0, nil, api.ErrShort}, {append(shorts(0, 2, 5), 0), false, 3, nil, api.ErrShort},
		{shorts(0, 3, 2), false, 2, nil, api.ErrOrder}, {longs(0, 3, 2), true, 2, nil, api.ErrOrder}, {longs(1, 0), true, 1, nil, api.ErrOrder}, {shorts(3, 2, 5), false, 2, nil, api.ErrOrder}, {shorts(3, 2, 5)[:5], false, 2, nil, api.ErrShort}, {append(shorts(0, 3), 0, 1), false, 1, []int{0, 6}, api.OK},
		{many, true, -1, nil, api.ErrArg}, {many, true, 1025, nil, api.ErrArg}, {many, true, math.MaxInt, nil, api.ErrArg}, {many, false, math.MinInt, nil, api.ErrArg}, {nil, true, -1, nil, api.ErrArg}, {many, true, 1024, make([]int, 1025), api.OK}, {many[:4*1025-1], true, 1024, nil, api.ErrShort}, {many[:2*1025], false, 1024, make([]int, 1025), api.OK}, {longs(2, 1), true, 1025, nil, api.ErrArg},
	} {
		before := bytes.Clone(x.b)
		l, e := loca.Read(x.b, x.long, x.glyphs)
		if !slices.Equal(l, x.want) || e != x.e {
			t.Errorf("row %d: %v %d", i, l, e)
		}
		if !bytes.Equal(before, x.b) {
			t.Errorf("row %d: the argument was changed", i)
		}
	}
}

func TestWrite(t *testing.T) {
	for i, x := range []struct {
		l    []int
		long bool
		want []byte
		e    api.Errno
	}{
		{[]int{0, 4, 10}, false, shorts(0, 2, 5), api.OK}, {[]int{0, 4, 10}, true, longs(0, 4, 10), api.OK}, {[]int{0, 4, 9}, false, nil, api.ErrRange}, {[]int{0, 4, 9}, true, longs(0, 4, 9), api.OK},
		{nil, false, nil, api.OK}, {nil, true, nil, api.OK}, {[]int{6}, false, shorts(3), api.OK}, {[]int{0, 0, 131070}, false, shorts(0, 0, 65535), api.OK}, {[]int{0, 131072}, false, nil, api.ErrRange}, {[]int{0, 131071}, false, nil, api.ErrRange}, {[]int{1, 2}, false, nil, api.ErrRange},
		{[]int{0, 1<<32 - 1}, true, longs(0, 1<<32-1), api.OK}, {[]int{0, 1 << 32}, true, nil, api.ErrRange}, {[]int{math.MaxInt}, true, nil, api.ErrRange}, {[]int{math.MaxInt - 1}, false, nil, api.ErrRange},
		{[]int{-1, 0}, true, nil, api.ErrOrder}, {[]int{-2, 0}, false, nil, api.ErrOrder}, {[]int{0, 4, 2}, false, nil, api.ErrOrder}, {[]int{0, 4, 3}, true, nil, api.ErrOrder}, {[]int{-1}, false, nil, api.ErrOrder}, {[]int{math.MinInt, math.MaxInt}, true, nil, api.ErrOrder},
		{[]int{0, 3, 2}, false, nil, api.ErrOrder}, {[]int{0, 1 << 32, 5}, true, nil, api.ErrOrder}, {[]int{5, 3}, false, nil, api.ErrOrder},
	} {
		before := slices.Clone(x.l)
		b, e := loca.Write(x.l, x.long)
		if !bytes.Equal(b, x.want) || e != x.e {
			t.Errorf("row %d: % x %d", i, b, e)
		}
		if !slices.Equal(before, x.l) {
			t.Errorf("row %d: the argument was changed", i)
		}
		if e == api.OK && len(x.l) > 0 {
			if l, e := loca.Read(append(b, 9, 9), x.long, len(x.l)-1); !slices.Equal(l, x.l) || e != api.OK {
				t.Errorf("row %d: what was written is read as %v %d", i, l, e)
			}
		}
		_, e = loca.Write(x.l, false)
		if long := loca.Long(x.l); long != (e != api.OK) {
			t.Errorf("row %d: Long is %v", i, long)
		}
	}
	for _, l := range [][]int{{0, 4, 9}, {0, 131072}, {-2, 0}, {4, 2}, {math.MaxInt}, {math.MinInt}} {
		if !loca.Long(l) {
			t.Errorf("%v is not long", l)
		}
	}
	for _, l := range [][]int{nil, {0}, {0, 131070}, {2, 2, 4}} {
		if loca.Long(l) {
			t.Errorf("%v is long", l)
		}
	}
}

func TestMetrics(t *testing.T) {
	b := shorts(500, 10, -2, 7)
	many := make([]byte, 4*1026)
	for i, x := range []struct {
		b             []byte
		count, glyphs int
		want          []api.Metric
		e             api.Errno
	}{
		{shorts(500, 10, -2), 1, 2, metrics(500, 10, 500, -2), api.OK}, {b, 2, 2, metrics(500, 10, 65534, 7), api.OK}, {b, 1, 3, metrics(500, 10, 500, -2, 500, 7), api.OK}, {b, 1, 1, metrics(500, 10), api.OK},
		{shorts(1, 32767, 65535, 32768, 32768, 32767), 2, 4, metrics(1, 32767, 65535, -32768, 65535, -32768, 65535, 32767), api.OK},
		{b[:7], 2, 2, nil, api.ErrShort}, {b[:7], 1, 3, nil, api.ErrShort}, {b[:5], 1, 2, nil, api.ErrShort}, {b[:3], 1, 1, nil, api.ErrShort}, {nil, 1, 1, nil, api.ErrShort}, {b, 2, 3, nil, api.ErrShort},
		{b, 0, 2, nil, api.ErrArg}, {b, 3, 2, nil, api.ErrArg}, {b, 1, 0, nil, api.ErrArg}, {b, 0, 0, nil, api.ErrArg}, {b, -1, 1, nil, api.ErrArg}, {b, 1, -1, nil, api.ErrArg}, {many, 1, 1025, nil, api.ErrArg}, {many, 1025, 1025, nil, api.ErrArg}, {many, math.MaxInt, math.MaxInt, nil, api.ErrArg}, {many, math.MinInt, 1, nil, api.ErrArg}, {nil, 0, 1, nil, api.ErrArg},
		{many, 1024, 1024, make([]api.Metric, 1024), api.OK}, {many[:4*1024], 1024, 1024, make([]api.Metric, 1024), api.OK}, {many[:4*1024-1], 1024, 1024, nil, api.ErrShort}, {many[:4+2*1023], 1, 1024, make([]api.Metric, 1024), api.OK}, {many[:4+2*1023-1], 1, 1024, nil, api.ErrShort},
	} {
		before := bytes.Clone(x.b)
		l, e := loca.Metrics(x.b, x.count, x.glyphs)
		if !slices.Equal(l, x.want) || e != x.e {
			t.Errorf("row %d: %v %d", i, l, e)
		}
		if !bytes.Equal(before, x.b) {
			t.Errorf("row %d: the argument was changed", i)
		}
	}
}

func TestPutMetrics(t *testing.T) {
	many := make([]api.Metric, 1025)
	for i, x := range []struct {
		l     []api.Metric
		count int
		want  []byte
		e     api.Errno
	}{
		{metrics(500, 10, 500, -2), 1, shorts(500, 10, -2), api.OK}, {metrics(500, 10, 500, -2), 2, shorts(500, 10, 500, -2), api.OK}, {metrics(1, -32768, 65535, 32767, 65535, 0), 2, shorts(1, -32768, 65535, 32767, 0), api.OK}, {metrics(0, 0), 1, shorts(0, 0), api.OK},
		{nil, 1, nil, api.ErrArg}, {nil, 0, nil, api.ErrArg}, {many, 1, nil, api.ErrArg}, {many, 1025, nil, api.ErrArg}, {many[:2], 0, nil, api.ErrArg}, {many[:2], 3, nil, api.ErrArg}, {many[:2], -1, nil, api.ErrArg}, {many[:2], math.MaxInt, nil, api.ErrArg}, {many[:1024], 1024, make([]byte, 4096), api.OK}, {many[:1024], 1, make([]byte, 4+2*1023), api.OK},
		{metrics(-1, 0), 1, nil, api.ErrRange}, {metrics(65536, 0), 1, nil, api.ErrRange}, {metrics(0, -32769), 1, nil, api.ErrRange}, {metrics(0, 32768), 1, nil, api.ErrRange}, {metrics(0, 0, 0, 0, 0, math.MaxInt), 1, nil, api.ErrRange}, {metrics(0, 0, math.MinInt, 0), 2, nil, api.ErrRange},
		{metrics(5, 0, 6, 0), 1, nil, api.ErrForm}, {metrics(5, 0, 6, 0, 5, 0), 2, nil, api.ErrForm}, {metrics(5, 0, 6, 0, 6, 0), 1, nil, api.ErrForm}, {metrics(5, 0, 6, 0, 6, 0), 2, shorts(5, 0, 6, 0, 0), api.OK}, {metrics(5, 0, 6, 0), 2, shorts(5, 0, 6, 0), api.OK},
		{metrics(5, 0, 6, 0, 7, 40000), 1, nil, api.ErrRange}, {metrics(5, 0, 70000, 0), 0, nil, api.ErrArg}, {metrics(5, 0, 70000, 0), 1, nil, api.ErrRange},
	} {
		before := slices.Clone(x.l)
		b, e := loca.PutMetrics(x.l, x.count)
		if !bytes.Equal(b, x.want) || e != x.e {
			t.Errorf("row %d: % x %d", i, b, e)
		}
		if !slices.Equal(before, x.l) {
			t.Errorf("row %d: the argument was changed", i)
		}
		if e == api.OK {
			if l, e := loca.Metrics(append(b, 9, 9), x.count, len(x.l)); !slices.Equal(l, x.l) || e != api.OK {
				t.Errorf("row %d: what was written is read as %v %d", i, l, e)
			}
		}
	}
}
