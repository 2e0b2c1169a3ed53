package script_test

import (
	"bytes"
	"encoding/binary"
	"math"
	"math/rand"
	"reflect"
	"strings"
	"testing"

	"calamus/api"
	"calamus/compo"
	"calamus/edit"
	"calamus/font"
	"calamus/script"
	"calamus/sfnt"
	"calamus/simple"
)

type cmd = script.Cmd

// lines are lines and their commands.
func lines() map[string]cmd {
	return map[string]cmd{
		"overlaps 0": {Kind: 1}, "overlaps 7": {Kind: 1, A: 7}, "overlaps 999999999": {Kind: 1, A: 999999999},
		"join union 1 2 3": {Kind: 2, Op: 1, A: 1, B: 2, To: 3}, "join meet 0 0 0": {Kind: 2, Op: 2}, "join minus 2 0 2": {Kind: 2, Op: 3, A: 2, To: 2}, "join xor 10 999999999 0": {Kind: 2, Op: 4, A: 10, B: 999999999},
		"stroke 1 64 miter 4 butt open": {Kind: 3, A: 1, Pen: api.Pen{Half: 64, Join: 1, Limit: 4, Cap: 1, Open: true}}, "stroke 0 0 bevel 0 square closed": {Kind: 3, Pen: api.Pen{Join: 2, Cap: 2}}, "stroke 12 999999999 round 999999999 round open": {Kind: 3, A: 12, Pen: api.Pen{Half: 999999999, Join: 3, Limit: 999999999, Cap: 3, Open: true}},
		"winds 0 -5 64": {Kind: 4, At: api.Point{X: -5, Y: 64}}, "winds 3 0 0": {Kind: 4, A: 3}, "winds 3 999999999 -999999999": {Kind: 4, A: 3, At: api.Point{X: 999999999, Y: -999999999}}, "winds 9 10 -1": {Kind: 4, A: 9, At: api.Point{X: 10, Y: -1}},
	}
}

func TestParsePrint(t *testing.T) {
	for line, c := range lines() {
		if got, e := script.Parse(line); got != c || e != api.OK {
			t.Errorf("Parse(%q) = %v %d", line, got, e)
		}
		if got, e := script.Print(c); got != line || e != api.OK {
			t.Errorf("Print(%v) = %q %d", c, got, e)
		}
		// No word more or less, and each byte counts.
		for i := range len(line) + 1 {
			for _, changed := range []string{line[:i] + " " + line[i:], line[:i] + "\n" + line[i:], line[:i] + "\t" + line[i:], line[:i] + "\x00" + line[i:], line[:i] + "x" + line[i:], line[:i] + "+" + line[i:], line[:i] + "é" + line[i:]} {
				if got, e := script.Parse(changed); got != (cmd{}) || e != api.ErrForm {
					t.Errorf("Parse(%q) = %v %d", changed, got, e)
				}
			}
			if i == len(line) {
				break
			}
			cut := line[:i] + line[i+1:]
			if got, e := script.Parse(cut); e == api.OK {
				if back, _ := script.Print(got); back != cut {
					t.Errorf("Parse(%q) = %v", cut, got)
				}
			} else if got != (cmd{}) || e != api.ErrForm {
				t.Errorf("Parse(%q) = %v %d", cut, got, e)
			}
		}
		if got, e := script.Parse(strings.ToUpper(line)); got != (cmd{}) || e != api.ErrForm {
			t.Errorf("Parse(%q) = %v %d", strings.ToUpper(line), got, e)
		}
		for _, changed := range []string{line + " 1", line + " ", " " + line, line + " open", line + "\r", line[:strings.LastIndex(line, " ")], line + " 1 2 3 4 5 6 7 8 9"} {
			if got, e := script.Parse(changed); got != (cmd{}) || e != api.ErrForm {
				t.Errorf("Parse(%q) = %v %d", changed, got, e)
			}
		}
	}
}

func TestParseErrors(t *testing.T) {
	for _, line := range []string{
		"", " ", "overlaps", "overlaps ", "overlaps 01", "overlaps  1", "overlaps 00", "overlaps -0", "overlaps -1", "overlaps 1000000000", "overlaps 0999999999", "overlaps 18446744073709551617", "overlaps 1e3", "overlaps 0x1", "overlaps 1_0", "overlaps ١", "overlap 1", "1", "overlaps a", "overlaps 1 2",
		"join 1 2 3 4", "join and 1 2 3", "join union 1 2", "join union 1 2 3 4", "join union 1 2 -3", "join union union 2 3", "join  1 2 3", "join unio 1 2 3", "join Union 1 2 3", "join xor xor 1 2 3", "union 1 2 3",
		"stroke 1 64 round 4 flat open", "stroke 1 64 round 4 butt", "stroke 1 64 round 4 butt shut", "stroke 1 64 butt 4 butt open", "stroke 1 64 miter 4 miter open", "stroke 1 64 round 4 bevel open", "stroke 1 64 round 4 round round", "stroke 1 64 square 4 round open", "stroke 1 64 round four butt open", "stroke 1 -64 round 4 butt open", "stroke 1 64 4 round butt open", "stroke -1 64 round 4 butt open", "stroke 1 64 round 4  open", "stroke 1 64  4 butt open", "stroke 1 64 round 4 butt ", "stroke 1 64 round 4 butt open closed", "stroke 01 64 round 4 butt open", "stroke 1 064 round 4 butt open", "stroke 1 64 round 04 butt open",
		"winds 1 2", "winds 1 2 3 4", "winds 1 -0 0", "winds 1 0 -0", "winds 1 - 0", "winds 1 0 -", "winds 1 --5 0", "winds 1 -01 0", "winds 1 +1 0", "winds -1 0 0", "winds 1 1000000000 0", "winds 1 0 -1000000000", "winds 1 5- 0", "winds 01 0 0", "winds 1 1.5 0", "winds 1 ２ 0",
		"overlaps\x00 1", "overlaps 1\n", "overlaps 1\noverlaps 1", "\noverlaps 1", "open", "winds", "stroke", "join", strings.Repeat(" ", 60000), "overlaps " + strings.Repeat("1", 60000), "\xff\xfe",
	} {
		if got, e := script.Parse(line); got != (cmd{}) || e != api.ErrForm {
			t.Errorf("Parse(%q) = %v %d", line, got, e)
		}
	}
}

func TestPrintErrors(t *testing.T) {
	pen := api.Pen{Half: 64, Join: 1, Limit: 4, Cap: 1}
	change := func(how func(p *api.Pen)) api.Pen {
		p := pen
		how(&p)
		return p
	}
	for _, c := range []cmd{
		{}, {Kind: 5}, {Kind: -1}, {Kind: math.MaxInt}, {Kind: 1, A: -1}, {Kind: 1, A: 1000000000}, {Kind: 1, A: math.MinInt}, {Kind: 1, A: math.MaxInt},
		{Kind: 2}, {Kind: 2, Op: 5}, {Kind: 2, Op: -1}, {Kind: 2, Op: 1, A: -1}, {Kind: 2, Op: 1, B: -1}, {Kind: 2, Op: 1, To: -1}, {Kind: 2, Op: 1, A: 1000000000}, {Kind: 2, Op: 1, B: 1000000000}, {Kind: 2, Op: 1, To: 1000000000},
		{Kind: 3}, {Kind: 3, A: -1, Pen: pen}, {Kind: 3, A: 1000000000, Pen: pen}, {Kind: 3, Pen: change(func(p *api.Pen) { p.Half = -1 })}, {Kind: 3, Pen: change(func(p *api.Pen) { p.Half = 1000000000 })}, {Kind: 3, Pen: change(func(p *api.Pen) { p.Join = 0 })}, {Kind: 3, Pen: change(func(p *api.Pen) { p.Join = 4 })}, {Kind: 3, Pen: change(func(p *api.Pen) { p.Cap = 0 })}, {Kind: 3, Pen: change(func(p *api.Pen) { p.Cap = 4 })}, {Kind: 3, Pen: change(func(p *api.Pen) { p.Cap = 5 })}, {Kind: 3, Pen: change(func(p *api.Pen) { p.Limit = -1 })}, {Kind: 3, Pen: change(func(p *api.Pen) { p.Limit = 1000000000 })}, {Kind: 3, Pen: change(func(p *api.Pen) { p.Join = -1 })},
		{Kind: 4, A: -1}, {Kind: 4, A: 1000000000}, {Kind: 4, At: api.Point{X: 1000000000}}, {Kind: 4, At: api.Point{Y: 1000000000}}, {Kind: 4, At: api.Point{X: -1000000000}}, {Kind: 4, At: api.Point{Y: -1000000000}}, {Kind: 4, At: api.Point{Y: math.MinInt}},
	} {
		if got, e := script.Print(c); got != "" || e != api.ErrForm {
			t.Errorf("Print(%v) = %q %d", c, got, e)
		}
	}
	// Fields that a row does not name are not looked at.
	wrong := cmd{Op: -7, B: -7, To: -7, Pen: api.Pen{Half: -7, Join: -7, Limit: -7, Cap: -7, Open: true}, At: api.Point{X: math.MinInt, Y: math.MaxInt}, A: 3}
	for kind, want := range map[int]string{1: "overlaps 3", 2: "join meet 3 4 5", 3: "stroke 3 64 miter 4 butt closed", 4: "winds 3 -1 1"} {
		c := wrong
		c.Kind = kind
		switch kind {
		case 2:
			c.Op, c.B, c.To = 2, 4, 5
		case 3:
			c.Pen = pen
		case 4:
			c.At = api.Point{X: -1, Y: 1}
		}
		if got, e := script.Print(c); got != want || e != api.OK {
			t.Errorf("Print(%v) = %q %d", c, got, e)
		}
	}
}

func TestParseAny(t *testing.T) {
	parts := []string{"overlaps", "join", "stroke", "winds", "union", "meet", "minus", "xor", "miter", "bevel", "round", "butt", "square", "open", "closed", "0", "1", "17", "-3", "-0", "007", "", "999999999", "1000000000", "x"}
	r := rand.New(rand.NewSource(40))
	found := 0
	for range 200000 {
		var l []string
		switch r.Intn(4) {
		case 0:
			l = []string{"overlaps"}
		case 1:
			l = []string{"join", parts[4+r.Intn(4)]}
		case 2:
			l = []string{"winds"}
		case 3:
			l = []string{"stroke", "1", "2", parts[8+r.Intn(3)]}
		}
		for range r.Intn(5) {
			l = append(l, parts[r.Intn(len(parts))])
		}
		line := strings.Join(l, " ")
		c, e := script.Parse(line)
		if e != api.OK {
			if c != (cmd{}) || e != api.ErrForm {
				t.Fatalf("Parse(%q) = %v %d", line, c, e)
			}
			continue
		}
		found++
		if back, e := script.Print(c); back != line || e != api.OK {
			t.Fatalf("Parse(%q) = %v, of which Print returns %q %d", line, c, back, e)
		}
	}
	if found < 1000 {
		t.Error("too few lines were commands:", found)
	}
}

// set is bytes with numbers of two bytes at places.
func set(b []byte, pairs ...int) []byte {
	b = bytes.Clone(b)
	for i := 0; i < len(pairs); i += 2 {
		binary.BigEndian.PutUint16(b[pairs[i]:], uint16(pairs[i+1]))
	}
	return b
}

func noise(n int) []byte {
	b := make([]byte, n)
	for i := range b {
		b[i] = byte(1 + i*11%255)
	}
	return b
}

// ring is a contour of knots on the curve.
func ring(n ...int) api.Contour {
	var c api.Contour
	for i := 0; i < len(n); i += 2 {
		c = append(c, api.Knot{X: n[i], Y: n[i+1], On: true})
	}
	return c
}

func box(x, y, xx, yy int) api.Contour { return ring(x, y, xx, y, xx, yy, x, yy) }

func plain(c ...api.Contour) []byte {
	b, e := simple.Write(api.Glyph{Shape: c})
	if e != api.OK {
		panic(e)
	}
	if len(b)%2 == 1 {
		b = append(b, 0)
	}
	return b
}

func made(l ...api.Part) []byte {
	b, e := compo.Write(l, nil, api.Point{}, api.Point{})
	if e != api.OK {
		panic(e)
	}
	return b
}

func part(glyph, x, y int) api.Part {
	return api.Part{Glyph: glyph, X: x, Y: y, M: [4]int{16384, 0, 0, 16384}}
}

// sample is a valid font: two squares, a triangle, a composite, one without bytes, and two that can't be expanded.
func sample() api.Font {
	glyphs := [][]byte{plain(box(0, 0, 4, 4), box(2, 2, 6, 6)), plain(ring(0, 0, 100, 0, 0, 300)), made(part(0, 0, 0), part(1, 10, 10)), nil, made(part(4, 0, 0)), {0, 1}, made(part(1, 32767, 32767), part(7, 0, 0)), made(api.Part{Glyph: 1, X: 32767, M: [4]int{32767, 0, 0, 32767}})}
	f := api.Font{
		Tables: []api.Table{{Tag: "cmap", Data: noise(33)}, {Tag: "head", Data: set(noise(54), 8, 0, 10, 0, 12, 0x5f0f, 14, 0x3cf5, 18, 1000, 36, 0, 38, 0, 40, 6, 42, 6, 50, 0)}, {Tag: "hhea", Data: set(noise(36), 34, 1)}, {Tag: "maxp", Data: set(noise(32), 0, 1, 2, 0, 4, len(glyphs), 6, 8, 8, 2, 10, 0, 12, 0, 28, 0, 30, 0)}},
		Head:   api.Head{Em: 1000, XMax: 6, YMax: 6},
		Maxp:   api.Maxp{Glyphs: len(glyphs), Points: 8, Contours: 2},
		Count:  1,
		Glyphs: glyphs,
	}
	for i := range glyphs {
		f.Metrics = append(f.Metrics, api.Metric{Advance: 500, Bearing: i})
	}
	if !font.Right(f) {
		panic("the sample is not valid")
	}
	return f
}

// clone copies a font without the difference between nil and empty.
func clone(f api.Font) api.Font {
	c := f
	c.Tables, c.Metrics, c.Glyphs = nil, nil, nil
	for _, t := range f.Tables {
		c.Tables = append(c.Tables, api.Table{Tag: t.Tag, Data: append([]byte{}, t.Data...)})
	}
	c.Metrics = append(c.Metrics, f.Metrics...)
	for _, g := range f.Glyphs {
		c.Glyphs = append(c.Glyphs, append([]byte{}, g...))
	}
	return c
}

func same(a, b api.Font) bool { return reflect.DeepEqual(clone(a), clone(b)) }

// spoil changes all memory of a font.
func spoil(f api.Font) {
	for _, t := range f.Tables {
		for i := range t.Data[:cap(t.Data)] {
			t.Data[:cap(t.Data)][i] ^= 0xff
		}
	}
	for _, g := range f.Glyphs {
		for i := range g[:cap(g)] {
			g[:cap(g)][i] ^= 0xff
		}
	}
	clear(f.Tables[:cap(f.Tables)])
	clear(f.Glyphs[:cap(f.Glyphs)])
	clear(f.Metrics[:cap(f.Metrics)])
}

func TestDo(t *testing.T) {
	pen := api.Pen{Half: 64, Join: 1, Limit: 4, Cap: 1}
	winds := func(id, x, y int) cmd { return cmd{Kind: 4, A: id, At: api.Point{X: x, Y: y}} }
	edited := func(f api.Font, e api.Errno) api.Font {
		if e != api.OK {
			panic(e)
		}
		return f
	}
	overlaps := edited(edit.Overlaps(sample(), 0))
	joined := edited(edit.Join(sample(), api.Minus, 0, 1, 3))
	stroked := edited(edit.Stroke(sample(), 1, pen))
	for _, x := range []struct {
		c      cmd
		want   api.Font
		answer string
	}{
		{cmd{Kind: 1}, overlaps, "ok"}, {cmd{Kind: 2, Op: api.Minus, B: 1, To: 3}, joined, "ok"}, {cmd{Kind: 3, A: 1, Pen: pen}, stroked, "ok"},
		{cmd{Kind: 1, A: 99}, sample(), "error 8"}, {cmd{Kind: 1, A: -1}, sample(), "error 8"}, {cmd{Kind: 1, A: 4}, sample(), "error 10"}, {cmd{Kind: 1, A: 5}, sample(), "error 3"}, {cmd{Kind: 2, A: 1, B: 2}, sample(), "error 2"}, {cmd{Kind: 2, Op: 9}, sample(), "error 2"}, {cmd{Kind: 2, Op: 1, A: 0, B: 0, To: 8}, sample(), "error 8"}, {cmd{Kind: 3, A: 1}, sample(), "error 2"}, {cmd{Kind: 3, A: 2, Pen: pen}, sample(), "error 11"},
		{cmd{}, sample(), "error 2"}, {cmd{Kind: 5}, sample(), "error 2"}, {cmd{Kind: -1}, sample(), "error 2"}, {cmd{Kind: math.MinInt, A: 5}, sample(), "error 2"},
		{winds(0, 64, 64), sample(), "1"}, {winds(0, 192, 192), sample(), "2"}, {winds(0, 256, 64), sample(), "on"}, {winds(0, 257, 64), sample(), "0"}, {winds(0, -1, 64), sample(), "0"}, {winds(0, 0, 0), sample(), "on"}, {winds(1, 65, 65), sample(), "1"}, {winds(2, 192, 192), sample(), "2"}, {winds(2, 641, 641), sample(), "1"}, {winds(3, 0, 0), sample(), "0"}, {winds(3, api.MaxSub, -api.MaxSub), sample(), "0"},
		{winds(99, 0, 0), sample(), "error 8"}, {winds(-1, api.MaxSub+1, 0), sample(), "error 8"}, {winds(4, 0, 0), sample(), "error 10"}, {winds(5, 0, 0), sample(), "error 3"}, {winds(0, api.MaxSub+1, 0), sample(), "error 6"}, {winds(3, 0, math.MinInt), sample(), "error 6"}, {winds(6, 0, 0), sample(), "0"}, {winds(7, 2097152, 1), sample(), "1"},
	} {
		f := sample()
		before := clone(f)
		got, answer := script.Do(f, x.c)
		if !same(got, x.want) || answer != x.answer {
			t.Errorf("Do(%v) answers %q, not %q, or makes another font", x.c, answer, x.answer)
		}
		if !same(f, before) {
			t.Errorf("Do(%v) changes its argument", x.c)
		}
		spoil(got)
		if !same(f, before) {
			t.Errorf("Do(%v): memory is shared", x.c)
		}
	}
	// A clockwise glyph.
	if _, answer := script.Do(overlaps, winds(0, 64, 64)); answer != "-1" {
		t.Error(answer)
	}
	// A font that is not valid may be asked, but not changed.
	wrong := sample()
	wrong.Metrics = nil
	for c, want := range map[cmd]string{{Kind: 1}: "error 4", {Kind: 2, Op: 9}: "error 4", {Kind: 3}: "error 4", winds(0, 64, 64): "1", {}: "error 2"} {
		if got, answer := script.Do(wrong, c); answer != want || !same(got, wrong) {
			t.Errorf("Do(%v) on a wrong font: %q", c, answer)
		}
	}
	if got, answer := script.Do(api.Font{}, winds(0, 0, 0)); answer != "error 8" || !same(got, api.Font{}) {
		t.Error(answer)
	}
	// More lines than may be: an outline that can be expanded, but not flattened.
	var c api.Contour
	for i := range 40 {
		c = append(c, api.Knot{X: 30000 * (i % 2), Y: 30000 * (i / 2 % 2)})
	}
	many := api.Font{Glyphs: [][]byte{plain(c)}}
	if _, answer := script.Do(many, winds(0, 0, 0)); answer != "error 7" {
		t.Error(answer)
	}
}

func TestRun(t *testing.T) {
	b, _ := font.Write(sample())
	for i, x := range []struct {
		text, answers string
	}{
		{"", ""}, {"\n", "error 4\n"}, {"\n\n", "error 4\nerror 4\n"}, {"overlaps 0", "ok\n"}, {"overlaps 0\n", "ok\n"}, {"overlaps 0\n\n", "ok\nerror 4\n"}, {"winds 0 192 192\noverlaps 0\nwinds 0 192 192", "2\nok\n-1\n"}, {"overlaps 4\noverlaps 0\r\nwinds 0 0 64\n", "error 10\nerror 4\non\n"}, {"join minus 1 1 1\nwinds 1 65 65\nstroke 1 64 round 4 round open\njoin union 0 0 1\nwinds 1 65 65", "ok\n0\nok\nok\n-1\n"}, {" overlaps 0\noverlaps 0 ", "error 4\nerror 4\n"}, {"stroke 0 0 round 4 round open", "error 2\n"}, {"stroke 2 1 round 4 round open\njoin xor 0 99 0", "error 11\nerror 8\n"},
	} {
		before := bytes.Clone(b)
		want := sample()
		for _, line := range strings.Split(x.text, "\n") {
			if c, e := script.Parse(line); e == api.OK {
				want, _ = script.Do(want, c)
			}
		}
		out, answers, e := script.Run(b, x.text)
		if answers != x.answers || e != api.OK {
			t.Errorf("row %d: %q %d, not %q", i, answers, e, x.answers)
		}
		if got, e := font.Read(out); e != api.OK || !same(got, want) {
			t.Errorf("row %d: another font", i)
		}
		for j := range out {
			out[j] ^= 0xff
		}
		if !bytes.Equal(b, before) {
			t.Errorf("row %d: the argument was changed, or shares memory", i)
		}
		// The answers to a part of the text are the first ones.
		for j := range len(x.text) {
			if j > 0 && x.text[j-1] != '\n' {
				continue
			}
			if _, some, e := script.Run(b, x.text[:j]); e != api.OK || !strings.HasPrefix(x.answers, some) || strings.Count(some, "\n") != strings.Count(x.text[:j], "\n") {
				t.Errorf("row %d: the first %d bytes are answered by %q %d", i, j, some, e)
			}
		}
	}
	out, _, _ := script.Run(b, "winds 0 0 0\noverlaps 99\nnothing\n")
	if !bytes.Equal(out, b) {
		t.Error("queries and errors change the font")
	}
}

func TestRunErrors(t *testing.T) {
	b, _ := font.Write(sample())
	l, _ := sfnt.Read(b)
	long := strings.Repeat("\n", api.MaxText)
	for i, x := range []struct {
		b    []byte
		text string
		want api.Errno
	}{
		{b, long, api.OK}, {b, long + "\n", api.ErrFull}, {nil, long + "x", api.ErrFull}, {nil, "", api.ErrShort}, {b[:len(b)-8], "overlaps 0", api.ErrShort}, {make([]byte, 50), "overlaps 0", api.ErrForm}, {make([]byte, api.MaxFile+1), "", api.ErrFull},
	} {
		out, answers, e := script.Run(x.b, x.text)
		if e != x.want || e != api.OK && (len(out) != 0 || answers != "") {
			t.Errorf("row %d: %d bytes, %d bytes, %d", i, len(out), len(answers), e)
		}
		if e == api.OK && answers != strings.Repeat("error 4\n", len(x.text)) {
			t.Errorf("row %d: other answers", i)
		}
	}
	for _, tag := range []string{"head", "maxp", "hhea", "hmtx", "loca", "glyf"} {
		var some []api.Table
		for _, x := range l {
			if x.Tag != tag {
				some = append(some, x)
			}
		}
		file, _ := sfnt.Write(some)
		if out, answers, e := script.Run(file, "overlaps 0"); e != api.ErrNone || len(out) != 0 || answers != "" {
			t.Errorf("without %s: %d", tag, e)
		}
	}
}

// overlapping is the file of a font in which two tables lie over one another, so that it has too many bytes once they don't.
func overlapping() []byte {
	f := clone(sample())
	data := make([]byte, api.MaxFile/2)
	f.Tables = append([]api.Table{{Tag: "aaaa", Data: data}, {Tag: "bbbb", Data: []byte{}}}, f.Tables...)
	b, e := font.Write(f)
	if e != api.OK {
		panic(e)
	}
	// The second entry tells the place and the length of the first one. Of zeros any sum is 0.
	copy(b[12+16+4:12+32], b[12+4:12+16])
	return b
}

func TestRunTooLong(t *testing.T) {
	b := overlapping()
	if f, e := font.Read(b); e != api.OK || font.Right(f) {
		t.Fatal("the font should be read, but not be valid", e)
	}
	if out, answers, e := script.Run(b, "winds 0 64 64\n"); e != api.ErrForm || len(out) != 0 || answers != "" {
		t.Error(len(out), answers, e)
	}
}

func TestAnyBytes(t *testing.T) {
	b, _ := font.Write(sample())
	r := rand.New(rand.NewSource(41))
	text := "overlaps 0\njoin xor 0 1 2\nstroke 1 64 round 4 round closed\nwinds 2 0 0\n"
	fonts := 0
	for round := range 6000 {
		c := bytes.Clone(b)
		if round%2 == 0 {
			// Wrong tables, with the right sums.
			l, _ := sfnt.Read(c)
			for range 1 + r.Intn(3) {
				d := l[r.Intn(len(l))].Data
				d[r.Intn(len(d))] ^= byte(1 << r.Intn(8))
			}
			c, _ = sfnt.Write(l)
		} else {
			c[r.Intn(len(c))] ^= byte(1 << r.Intn(8))
		}
		if r.Intn(9) == 0 {
			c = c[:r.Intn(len(c))]
		}
		out, answers, e := script.Run(c, text)
		if e != api.OK {
			if len(out) != 0 || answers != "" || e < 2 || e > 12 {
				t.Fatalf("%d bytes and %q beside the error %d", len(out), answers, e)
			}
			continue
		}
		if f, e := font.Read(out); e != api.OK || !font.Right(f) || strings.Count(answers, "\n") != 4 {
			t.Fatalf("what is written is no font: %d", e)
		}
		fonts++
	}
	if fonts < 1000 {
		t.Error("too few were fonts:", fonts)
	}
}
