package edit_test

import (
	"bytes"
	"encoding/binary"
	"math"
	"math/rand"
	"reflect"
	"slices"
	"testing"

	"calamus/api"
	"calamus/compo"
	"calamus/edit"
	"calamus/expand"
	"calamus/font"
	"calamus/shape"
	"calamus/simple"
	"calamus/stroke"
)

func at(x, y int) api.Point { return api.Point{X: x, Y: y} }

// ring is a contour of knots on the curve.
func ring(n ...int) api.Contour {
	var c api.Contour
	for i := 0; i < len(n); i += 2 {
		c = append(c, api.Knot{X: n[i], Y: n[i+1], On: true})
	}
	return c
}

func box(x, y, xx, yy int) api.Contour { return ring(x, y, xx, y, xx, yy, x, yy) }

// plain is a simple glyph's bytes, of an even number.
func plain(c ...api.Contour) []byte {
	b, e := simple.Write(api.Glyph{Shape: c})
	if e != api.OK {
		panic(e)
	}
	if len(b)%2 == 1 {
		b = append(b, 0)
	}
	return b
}

// made is a composite glyph's bytes, with a box.
func made(least, most api.Point, l ...api.Part) []byte {
	b, e := compo.Write(l, nil, least, most)
	if e != api.OK {
		panic(e)
	}
	return b
}

func part(glyph, x, y int) api.Part {
	return api.Part{Glyph: glyph, X: x, Y: y, M: [4]int{16384, 0, 0, 16384}}
}

// set is bytes with numbers of two bytes at places.
func set(b []byte, pairs ...int) []byte {
	b = bytes.Clone(b)
	for i := 0; i < len(pairs); i += 2 {
		binary.BigEndian.PutUint16(b[pairs[i]:], uint16(pairs[i+1]))
	}
	return b
}

func noise(n int) []byte {
	b := make([]byte, n)
	for i := range b {
		b[i] = byte(1 + i*11%255)
	}
	return b
}

// sample is a valid font with these glyphs.
func sample(glyphs ...[]byte) api.Font {
	f := api.Font{
		Tables: []api.Table{{Tag: "cmap", Data: noise(33)}, {Tag: "head", Data: set(noise(56), 8, 0, 10, 0, 12, 0x5f0f, 14, 0x3cf5, 18, 1000, 36, -1, 38, -2, 40, 3, 42, 4, 50, 0)}, {Tag: "hhea", Data: set(noise(36), 34, min(2, len(glyphs)))}, {Tag: "maxp", Data: set(noise(33), 0, 1, 2, 0, 4, len(glyphs), 6, 10, 8, 11, 10, 12, 12, 13, 28, 14, 30, 15)}, {Tag: "what", Data: noise(7)}},
		Head:   api.Head{Em: 1000, XMin: -1, YMin: -2, XMax: 3, YMax: 4},
		Maxp:   api.Maxp{Glyphs: len(glyphs), Points: 10, Contours: 11, CompPoints: 12, CompContours: 13, Elements: 14, Depth: 15},
		Count:  min(2, len(glyphs)),
	}
	for i, b := range glyphs {
		f.Glyphs = append(f.Glyphs, bytes.Clone(b))
		f.Metrics = append(f.Metrics, api.Metric{Advance: 500 + min(i, 1), Bearing: -i})
	}
	if !font.Right(f) {
		panic("the sample is not valid")
	}
	return f
}

// clone copies a font without the difference between nil and empty.
func clone(f api.Font) api.Font {
	c := f
	c.Tables, c.Metrics, c.Glyphs = nil, nil, nil
	for _, t := range f.Tables {
		c.Tables = append(c.Tables, api.Table{Tag: t.Tag, Data: append([]byte{}, t.Data...)})
	}
	c.Metrics = append(c.Metrics, f.Metrics...)
	for _, g := range f.Glyphs {
		c.Glyphs = append(c.Glyphs, append([]byte{}, g...))
	}
	return c
}

func same(a, b api.Font) bool { return reflect.DeepEqual(clone(a), clone(b)) }

// spoil changes all memory of a font.
func spoil(f api.Font) {
	for _, t := range f.Tables {
		for i := range t.Data[:cap(t.Data)] {
			t.Data[:cap(t.Data)][i] ^= 0xff
		}
	}
	for _, g := range f.Glyphs {
		for i := range g[:cap(g)] {
			g[:cap(g)][i] ^= 0xff
		}
	}
	clear(f.Tables[:cap(f.Tables)])
	clear(f.Glyphs[:cap(f.Glyphs)])
	clear(f.Metrics[:cap(f.Metrics)])
}

// broken is bytes of a simple glyph that can't be read, with a box of its own.
var broken = []byte{0, 9, 0x80, 0, 0x7f, 0, 0, 0, 0, 0, 0, 0}

// standard is a font with glyphs of all kinds.
func standard() api.Font {
	return sample(
		plain(ring(0, 0, 100, 0, 0, 300)),
		plain(box(0, 0, 400, 400), box(200, 200, 600, 600)),
		made(at(-500, -600), at(700, 800), part(1, 10, -10), part(0, 0, 0)),
		nil,
		broken,
		made(at(0, 0), at(0, 0), part(99, 0, 0)),
		made(at(0, 0), at(0, 0), part(6, 0, 0)),
		[]byte{0, 0, 0x90, 1, 0x90, 2, 0x7f, 3, 0x7f, 4},
	)
}

// put is what the chapter says of Put for a valid font and an outline that can be written.
func put(f api.Font, id int, o api.Outline) api.Font {
	f = clone(f)
	b, _ := simple.Write(api.Glyph{Shape: o})
	if len(b)%2 == 1 {
		b = append(b, 0)
	}
	f.Glyphs[id] = b
	least, first := 0, true
	for _, c := range o {
		for _, k := range c {
			if first || k.X < least {
				least, first = k.X, false
			}
		}
	}
	f.Metrics[id].Bearing = least
	f.Maxp.Points, f.Maxp.Contours = 0, 0
	var sides [4][]int
	for _, b := range f.Glyphs {
		if len(b) >= 10 {
			for i := range sides {
				sides[i] = append(sides[i], int(int16(binary.BigEndian.Uint16(b[2+2*i:]))))
			}
		}
		if g, e := simple.Read(b); e == api.OK && len(b) >= 2 && b[0] < 128 {
			n := 0
			for _, c := range g.Shape {
				n += len(c)
			}
			f.Maxp.Points, f.Maxp.Contours = max(f.Maxp.Points, n), max(f.Maxp.Contours, len(g.Shape))
		}
	}
	f.Head.XMin, f.Head.YMin, f.Head.XMax, f.Head.YMax = 0, 0, 0, 0
	if len(sides[0]) > 0 {
		f.Head.XMin, f.Head.YMin, f.Head.XMax, f.Head.YMax = slices.Min(sides[0]), slices.Min(sides[1]), slices.Max(sides[2]), slices.Max(sides[3])
	}
	f, e := font.Sync(f)
	if e != api.OK {
		panic(e)
	}
	return f
}

// check holds the answer of an edit against what it should be, and looks whether it shares memory or has changed its argument.
func check(t *testing.T, name string, f, got, want api.Font, e, wantErr api.Errno, again func(f api.Font) (api.Font, api.Errno)) {
	t.Helper()
	if wantErr != api.OK {
		want = api.Font{}
	}
	if e != wantErr || !same(got, want) {
		t.Errorf("%s: %d, not %d, or another font: %v, not %v", name, e, wantErr, got.Glyphs, want.Glyphs)
		return
	}
	if e != api.OK {
		return
	}
	b, e := font.Write(got)
	if back, e2 := font.Read(b); e != api.OK || e2 != api.OK || !same(back, got) {
		t.Errorf("%s: what is written is not read again", name)
	}
	before := clone(f)
	spoil(got)
	if !same(f, before) {
		t.Errorf("%s: memory is shared", name)
	}
	if other, e := again(f); e != api.OK || !same(other, want) {
		t.Errorf("%s: another answer the second time", name)
	}
}

func TestPut(t *testing.T) {
	off := ring(0, 0, 50, 90, 100, 0)
	off[1].On = false
	for i, x := range []struct {
		id   int
		o    api.Outline
		want api.Errno
	}{
		{0, api.Outline{box(-7, -8, 9, 10)}, api.OK}, {1, nil, api.OK}, {1, api.Outline{off}, api.OK}, {2, api.Outline{ring(5, 6)}, api.OK}, {3, api.Outline{box(1, 1, 2, 2), box(-32000, -32000, -31000, -31000)}, api.OK}, {4, api.Outline{slices.Repeat(ring(3, 3), 4096)}, api.OK}, {7, nil, api.OK}, {5, api.Outline{ring(32767, 32767)}, api.OK}, {0, nil, api.OK},
		{-1, nil, api.ErrNone}, {8, nil, api.ErrNone}, {math.MaxInt, api.Outline{nil}, api.ErrNone}, {math.MinInt, nil, api.ErrNone}, {0, api.Outline{nil}, api.ErrForm}, {0, api.Outline{ring(1, 1), nil}, api.ErrForm}, {0, api.Outline{slices.Repeat(ring(3, 3), 4097)}, api.ErrFull}, {0, api.Outline{ring(32768, 0)}, api.ErrRange}, {0, api.Outline{ring(-2, 0, 32767, 0)}, api.ErrRange},
	} {
		f := standard()
		before := clone(f)
		var want api.Font
		if x.want == api.OK {
			want = put(f, x.id, x.o)
		}
		got, e := edit.Put(f, x.id, x.o)
		if !same(f, before) {
			t.Errorf("row %d: the argument was changed", i)
		}
		check(t, "row "+string(rune('a'+i)), f, got, want, e, x.want, func(f api.Font) (api.Font, api.Errno) { return edit.Put(f, x.id, x.o) })
	}
}

func TestPutNumbers(t *testing.T) {
	f := standard()
	got, _ := edit.Put(f, 0, api.Outline{box(-7, -8, 9, 10)})
	// The broken glyph's box counts, its contours don't; so does that of a glyph without contours.
	if got.Head != (api.Head{Em: 1000, XMin: -32768, YMin: -28670, XMax: 32515, YMax: 32516}) {
		t.Error(got.Head)
	}
	if got.Maxp != (api.Maxp{Glyphs: 8, Points: 8, Contours: 2, CompPoints: 12, CompContours: 13, Elements: 14, Depth: 15}) || got.Metrics[0] != (api.Metric{Advance: 500, Bearing: -7}) || got.Metrics[1] != f.Metrics[1] || got.Count != 2 {
		t.Error(got.Maxp, got.Metrics, got.Count)
	}
	// Nothing is left.
	f = sample(plain(box(5, 5, 9, 9)), nil)
	got, e := edit.Put(f, 0, nil)
	if e != api.OK || len(got.Glyphs[0]) != 0 || got.Metrics[0].Bearing != 0 || got.Head != (api.Head{Em: 1000}) || got.Maxp.Points != 0 || got.Maxp.Contours != 0 {
		t.Error(got, e)
	}
	// A box on one side of 0, beside a glyph that is too short to have one.
	f.Glyphs[1] = []byte{0, 0, 0x80, 0, 0x80, 0, 0x7f, 0, 0x7f}
	f, _ = font.Sync(f)
	for _, c := range []api.Contour{box(50, 60, 90, 100), box(-90, -100, -50, -60)} {
		got, e = edit.Put(f, 0, api.Outline{c})
		if want := (api.Head{Em: 1000, XMin: c[0].X, YMin: c[0].Y, XMax: c[2].X, YMax: c[2].Y, Long: true}); e != api.OK || got.Head != want {
			t.Error(got.Head, e)
		}
	}
	f = sample(plain(box(5, 5, 9, 9)), nil)
	// An odd number of bytes is made even.
	got, e = edit.Put(f, 0, api.Outline{ring(1, 0)})
	if b, _ := simple.Write(api.Glyph{Shape: api.Outline{ring(1, 0)}}); e != api.OK || len(b)%2 != 0 || !bytes.Equal(got.Glyphs[0], b) {
		t.Error(got.Glyphs, len(b), e)
	}
	got, e = edit.Put(f, 0, api.Outline{ring(0, 0)})
	if b, _ := simple.Write(api.Glyph{Shape: api.Outline{ring(0, 0)}}); e != api.OK || len(b)%2 != 1 || !bytes.Equal(got.Glyphs[0], append(b, 0)) {
		t.Error(got.Glyphs, len(b), e)
	}
}

func TestPutLong(t *testing.T) {
	long := bytes.Repeat([]byte{0}, 131070-20)
	f := sample(long, plain(ring(0, 0)))
	got, e := edit.Put(f, 1, api.Outline{ring(1, 2, 3, 4)})
	if e != api.OK || got.Head.Long {
		t.Error(got.Head, e)
	}
	got, e = edit.Put(f, 1, api.Outline{ring(1000, 2000, 3, 4)})
	if e != api.OK || !got.Head.Long || !font.Right(got) {
		t.Error(got.Head, e)
	}
	// No room in the file.
	f, _ = edit.Put(f, 1, api.Outline{ring(1000, 2000, 3, 4)})
	b, _ := font.Write(f)
	f.Glyphs[0] = append(f.Glyphs[0], make([]byte, api.MaxFile-len(b)-4)...)
	if !font.Right(f) {
		t.Fatal("the font has too many bytes")
	}
	if got, e := edit.Put(f, 1, api.Outline{ring(1000, 2000, 3, 4, 1000, 2000, 3, 4)}); e != api.ErrFull || !same(got, api.Font{}) {
		t.Error(e)
	}
	if got, e := edit.Put(f, 1, api.Outline{ring(1000, 2000, 3, 4)}); e != api.OK || !same(got, f) {
		t.Error(e)
	}
}

func TestOverlaps(t *testing.T) {
	for id, want := range map[int]api.Errno{0: api.OK, 1: api.OK, 2: api.OK, 3: api.OK, 4: api.ErrShort, 5: api.ErrNone, 6: api.ErrDeep, 7: api.OK, 8: api.ErrNone, -1: api.ErrNone, math.MinInt: api.ErrNone} {
		f := standard()
		before := clone(f)
		var wanted api.Font
		if want == api.OK {
			o, _ := expand.Of(f.Glyphs, id)
			o, _ = shape.Apply(api.Union, o, nil)
			wanted = put(f, id, o)
		}
		got, e := edit.Overlaps(f, id)
		if !same(f, before) {
			t.Errorf("glyph %d: the argument was changed", id)
		}
		check(t, "glyph "+string(rune('0'+id)), f, got, wanted, e, want, func(f api.Font) (api.Font, api.Errno) { return edit.Overlaps(f, id) })
	}
	f := sample(plain(box(0, 0, 400, 400), box(200, 200, 600, 600)), plain(ring(1, 1, 5, 5)))
	f, e := edit.Overlaps(f, 0)
	g, _ := simple.Read(f.Glyphs[0])
	if want := ring(0, 0, 0, 400, 200, 400, 200, 600, 600, 600, 600, 200, 400, 200, 400, 0); e != api.OK || len(g.Shape) != 1 || !slices.Equal(g.Shape[0], want) || f.Maxp.Contours != 1 || f.Maxp.Points != 8 {
		t.Error(g, f.Maxp, e)
	}
	// A glyph whose outline has no area is left without bytes.
	if f, e = edit.Overlaps(f, 1); e != api.OK || len(f.Glyphs[1]) != 0 {
		t.Error(f.Glyphs, e)
	}
	// An error of the operation.
	var cross []api.Contour
	for i := range 33 {
		cross = append(cross, box(0, 8*i+2, 300, 8*i+6), box(8*i+2, 0, 8*i+6, 300))
	}
	if f, e := edit.Overlaps(sample(plain(cross...)), 0); e != api.ErrFull || !same(f, api.Font{}) {
		t.Error(e)
	}
}

func TestJoin(t *testing.T) {
	for i, x := range []struct {
		op, a, b, to int
		want         api.Errno
	}{
		{api.Union, 0, 1, 3, api.OK}, {api.Meet, 0, 1, 0, api.OK}, {api.Minus, 1, 0, 4, api.OK}, {api.Xor, 2, 1, 2, api.OK}, {api.Minus, 1, 1, 5, api.OK}, {api.Union, 3, 3, 1, api.OK}, {api.Minus, 2, 0, 6, api.OK}, {api.Minus, 0, 2, 6, api.OK},
		{0, 0, 0, 0, api.ErrArg}, {5, 99, 99, 99, api.ErrArg}, {-1, 4, 5, 6, api.ErrArg}, {math.MaxInt, 0, 0, 0, api.ErrArg}, {api.Union, 8, 0, 0, api.ErrNone}, {api.Union, 0, 8, 0, api.ErrNone}, {api.Union, 0, 0, 8, api.ErrNone}, {api.Union, -1, 0, 0, api.ErrNone}, {api.Union, 0, -1, 0, api.ErrNone}, {api.Union, 0, 0, -1, api.ErrNone}, {api.Union, 4, 0, 8, api.ErrNone}, {api.Union, 4, 6, 0, api.ErrShort}, {api.Union, 6, 4, 0, api.ErrDeep}, {api.Union, 0, 4, 0, api.ErrShort}, {api.Union, 0, 6, 4, api.ErrDeep}, {api.Union, 5, 4, 0, api.ErrNone},
	} {
		f := standard()
		before := clone(f)
		var want api.Font
		if x.want == api.OK {
			a, _ := expand.Of(f.Glyphs, x.a)
			b, _ := expand.Of(f.Glyphs, x.b)
			o, _ := shape.Apply(x.op, a, b)
			want = put(f, x.to, o)
		}
		got, e := edit.Join(f, x.op, x.a, x.b, x.to)
		if !same(f, before) {
			t.Errorf("row %d: the argument was changed", i)
		}
		check(t, "row "+string(rune('a'+i)), f, got, want, e, x.want, func(f api.Font) (api.Font, api.Errno) { return edit.Join(f, x.op, x.a, x.b, x.to) })
	}
	many := slices.Repeat([]api.Contour{box(0, 0, 400, 400)}, 1024)
	if f, e := edit.Join(sample(plain(many...), plain(box(0, 0, 1, 1))), api.Union, 0, 1, 1); e != api.ErrFull || !same(f, api.Font{}) {
		t.Error(e)
	}
	f, e := edit.Join(standard(), api.Minus, 1, 1, 0)
	if e != api.OK || len(f.Glyphs[0]) != 0 {
		t.Error("a glyph minus itself:", f.Glyphs[0], e)
	}
}

func TestStroke(t *testing.T) {
	open := api.Pen{Half: 640, Join: api.Round, Limit: 4, Cap: api.Round, Open: true}
	shut := api.Pen{Half: 320, Join: api.Miter, Limit: 4, Cap: api.Butt}
	wrong := api.Pen{Half: 0, Join: api.Round, Limit: 4, Cap: api.Round}
	for i, x := range []struct {
		id   int
		pen  api.Pen
		want api.Errno
	}{
		{0, open, api.OK}, {0, shut, api.OK}, {1, shut, api.OK}, {1, open, api.OK}, {3, open, api.OK}, {7, shut, api.OK},
		{0, wrong, api.ErrArg}, {99, wrong, api.ErrArg}, {2, wrong, api.ErrArg}, {0, api.Pen{}, api.ErrArg}, {8, open, api.ErrNone}, {-1, shut, api.ErrNone}, {2, open, api.ErrKind}, {5, open, api.ErrKind}, {6, shut, api.ErrKind}, {4, shut, api.ErrShort},
		{0, api.Pen{Half: api.MaxHalf, Join: api.Miter, Limit: 16, Cap: api.Square}, api.OK}, {1, api.Pen{Half: api.MaxHalf, Join: api.Round, Limit: 16, Cap: api.Square}, api.OK},
	} {
		f := standard()
		before := clone(f)
		var want api.Font
		if x.want == api.OK {
			o, _ := expand.Of(f.Glyphs, x.id)
			o, e := stroke.Of(o, x.pen)
			if e != api.OK {
				t.Fatalf("row %d: %d", i, e)
			}
			want = put(f, x.id, o)
		}
		got, e := edit.Stroke(f, x.id, x.pen)
		if !same(f, before) {
			t.Errorf("row %d: the argument was changed", i)
		}
		check(t, "row "+string(rune('a'+i)), f, got, want, e, x.want, func(f api.Font) (api.Font, api.Errno) { return edit.Stroke(f, x.id, x.pen) })
	}
	far := sample(plain(ring(32767, 0, 0, 0)))
	if f, e := edit.Stroke(far, 0, open); e != api.ErrRange || !same(f, api.Font{}) {
		t.Error(e)
	}
}

func TestWrongFont(t *testing.T) {
	f := standard()
	f.Metrics = f.Metrics[1:]
	before := clone(f)
	for _, bad := range []api.Font{f, {}} {
		for i, edited := range []func() (api.Font, api.Errno){
			func() (api.Font, api.Errno) { return edit.Put(bad, 0, nil) },
			func() (api.Font, api.Errno) { return edit.Put(bad, -1, api.Outline{nil}) },
			func() (api.Font, api.Errno) { return edit.Overlaps(bad, 0) },
			func() (api.Font, api.Errno) { return edit.Overlaps(bad, 99) },
			func() (api.Font, api.Errno) { return edit.Join(bad, api.Union, 0, 0, 0) },
			func() (api.Font, api.Errno) { return edit.Join(bad, 0, 0, 0, 0) },
			func() (api.Font, api.Errno) {
				return edit.Stroke(bad, 0, api.Pen{Half: 1, Join: 1, Limit: 1, Cap: 1})
			},
			func() (api.Font, api.Errno) { return edit.Stroke(bad, 99, api.Pen{}) },
		} {
			if got, e := edited(); e != api.ErrForm || !same(got, api.Font{}) {
				t.Errorf("edit %d: %d", i, e)
			}
		}
	}
	if !same(f, before) {
		t.Error("the argument was changed")
	}
}

func TestAllElseStays(t *testing.T) {
	r := rand.New(rand.NewSource(39))
	f := standard()
	for range 60 {
		id, before := r.Intn(len(f.Glyphs)), f
		var e api.Errno
		switch r.Intn(4) {
		case 0:
			f, e = edit.Put(f, id, api.Outline{box(r.Intn(100)-50, r.Intn(100)-50, 60+r.Intn(100), 60+r.Intn(100)), box(r.Intn(100), r.Intn(100), r.Intn(100), 200)})
		case 1:
			f, e = edit.Overlaps(f, id)
		case 2:
			f, e = edit.Join(f, 1+r.Intn(4), r.Intn(len(f.Glyphs)), r.Intn(len(f.Glyphs)), id)
		case 3:
			f, e = edit.Stroke(f, id, api.Pen{Half: 64 * (1 + r.Intn(9)), Join: 1 + r.Intn(3), Limit: 4, Cap: 1 + r.Intn(3), Open: r.Intn(2) == 0})
		}
		if e != api.OK {
			f = before
			continue
		}
		for i := range f.Glyphs {
			if i != id && (!bytes.Equal(f.Glyphs[i], before.Glyphs[i]) || f.Metrics[i] != before.Metrics[i]) || f.Metrics[i].Advance != before.Metrics[i].Advance {
				t.Fatalf("an edit of glyph %d changes glyph %d", id, i)
			}
		}
		for i, x := range f.Tables {
			if y := before.Tables[i]; x.Tag != y.Tag || x.Tag != "head" && x.Tag != "maxp" && !bytes.Equal(x.Data, y.Data) {
				t.Fatalf("an edit changes the table %s", x.Tag)
			}
		}
		b, e := font.Write(f)
		if back, e2 := font.Read(b); e != api.OK || e2 != api.OK || !same(back, f) {
			t.Fatal("what is written is not read again")
		}
	}
}

func TestSpareRoom(t *testing.T) {
	// What lies behind the lists of a font, in their spare room, is not written to.
	f := standard()
	n := len(f.Tables)
	f.Tables = append(f.Tables, api.Table{Tag: "mark"}, api.Table{Tag: "mark"}, api.Table{Tag: "mark"}, api.Table{Tag: "mark"})[:n]
	f.Glyphs[0] = append(f.Glyphs[0], 55, 55)[:len(f.Glyphs[0])]
	code := f.Glyphs[0][:len(f.Glyphs[0])+2]
	before := clone(f)
	for i, edited := range []func() (api.Font, api.Errno){
		func() (api.Font, api.Errno) { return edit.Put(f, 3, api.Outline{box(0, 0, 9, 9)}) },
		func() (api.Font, api.Errno) { return edit.Overlaps(f, 2) },
		func() (api.Font, api.Errno) { return edit.Join(f, api.Union, 0, 1, 3) },
	} {
		if _, e := edited(); e != api.OK || !same(f, before) {
			t.Errorf("edit %d: %d", i, e)
		}
		for _, x := range f.Tables[:n+4][n:] {
			if x.Tag != "mark" || !bytes.Equal(code[len(code)-2:], []byte{55, 55}) {
				t.Errorf("edit %d: spare room was written to", i)
			}
		}
	}
}
