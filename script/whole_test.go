package script_test

import (
	"bytes"
	"encoding/binary"
	"math"
	"strings"
	"testing"

	"calamus/api"
	"calamus/font"
	"calamus/outline"
	"calamus/script"
	"calamus/sfnt"
	"calamus/shape"
	"calamus/simple"
)

// circle is a circle of four curves.
func circle(r int) api.Contour {
	c := ring(r, 0, r, r, 0, r, -r, r, -r, 0, -r, -r, 0, -r, r, -r)
	for i := 1; i < len(c); i += 2 {
		c[i].On = false
	}
	return c
}

// file is a font of some glyphs, with a table that no layer knows.
func file(glyphs ...[]byte) []byte {
	f := sample()
	f.Tables = append(f.Tables, api.Table{Tag: "what", Data: noise(77)})
	f.Glyphs, f.Metrics, f.Maxp.Glyphs = nil, nil, len(glyphs)
	for _, g := range glyphs {
		f.Glyphs = append(f.Glyphs, g)
		f.Metrics = append(f.Metrics, api.Metric{Advance: 500, Bearing: 9})
	}
	f, e := font.Sync(f)
	if e != api.OK {
		panic(e)
	}
	b, e := font.Write(f)
	if e != api.OK {
		panic(e)
	}
	return b
}

// run is the font that commands lead to, all of which must be answered by ok.
func run(t *testing.T, b []byte, text ...string) api.Font {
	t.Helper()
	out, answers, e := script.Run(b, strings.Join(text, "\n"))
	if e != api.OK || answers != strings.Repeat("ok\n", len(text)) {
		t.Fatal(text, answers, e)
	}
	checkFont(t, out)
	f, e := font.Read(out)
	if e != api.OK {
		t.Fatal(e)
	}
	return f
}

// glyph is the contours of a simple glyph, which must be clean.
func glyph(t *testing.T, f api.Font, id int) api.Outline {
	t.Helper()
	g, e := simple.Read(f.Glyphs[id])
	if e != api.OK || !shape.Clean(g.Shape) || font.Kind(f.Glyphs[id]) == 2 {
		t.Fatalf("glyph %d: %v %d is not clean", id, g.Shape, e)
	}
	return g.Shape
}

// checkFont looks at a file as a reader of fonts would.
func checkFont(t *testing.T, b []byte) {
	t.Helper()
	words := func(b []byte) (s uint32) {
		for i, x := range b {
			s += uint32(x) << (24 - 8*(i%4))
		}
		return s
	}
	if words(b) != 0xb1b0afba {
		t.Errorf("the sum of the file is %#x", words(b))
	}
	n := int(binary.BigEndian.Uint16(b[4:]))
	tables, last := map[string][]byte{}, ""
	for i := range n {
		x := b[12+16*i:]
		tag, place, length := string(x[:4]), binary.BigEndian.Uint32(x[8:]), binary.BigEndian.Uint32(x[12:])
		data := bytes.Clone(b[place : place+length])
		if tag == "head" {
			copy(data[8:], []byte{0, 0, 0, 0})
		}
		if tag <= last || words(data) != binary.BigEndian.Uint32(x[4:]) || place%4 != 0 {
			t.Errorf("the table %s: out of order, or with a wrong sum", tag)
		}
		tables[tag], last = data, tag
	}
	number := func(tag string, at int) int { return int(int16(binary.BigEndian.Uint16(tables[tag][at:]))) }
	locations := tables["loca"]
	for i := 2; i < len(locations); i += 2 {
		if number("head", 50) == 0 && number("loca", i) < number("loca", i-2) {
			t.Error("the locations are not ascending")
		}
	}
	if len(locations) != (2+2*number("head", 50))*(number("maxp", 4)+1) {
		t.Error(len(locations), "bytes of locations")
	}
}

func TestTenExamples(t *testing.T) {
	squares, same, ringed := plain(box(0, 0, 400, 400), box(200, 200, 600, 600)), plain(box(0, 0, 900, 900), box(300, 300, 600, 600)), plain(box(0, 0, 900, 900), ring(300, 300, 300, 600, 600, 600, 600, 300))
	b := file(squares, same, ringed, plain(ring(0, 0, 400, 400, 400, 0, 0, 400)), plain(circle(500)), squares, made(part(0, 0, 0), part(1, 100, 100)), plain(ring(0, 0, 1000, 0)), plain(ring(7, 7)), nil)
	f := run(t, b, "overlaps 0", "overlaps 1", "overlaps 2", "overlaps 3", "overlaps 4", "join minus 5 5 5", "overlaps 6", "stroke 7 6400 round 4 round open", "stroke 8 6400 round 4 round open")
	// 1, 2, 3, 4.
	for id, want := range []api.Outline{
		{ring(0, 0, 0, 400, 200, 400, 200, 600, 600, 600, 600, 200, 400, 200, 400, 0)},
		{ring(0, 0, 0, 900, 900, 900, 900, 0)},
		{ring(0, 0, 0, 900, 900, 900, 900, 0), ring(300, 300, 600, 300, 600, 600, 300, 600)},
		{ring(0, 0, 0, 400, 200, 200), ring(200, 200, 400, 400, 400, 0)},
	} {
		got := glyph(t, f, id)
		if a, b := plain(got...), plain(want...); !bytes.Equal(a, b) {
			t.Errorf("example %d: %v", id+1, got)
		}
	}
	// 5: the knots of the circle lie within a unit of the curves, which lie between the circle and 0.061 of its radius outside.
	round := glyph(t, f, 4)
	if len(round) != 1 || len(round[0]) < 30 {
		t.Error("the circle:", round)
	}
	for _, k := range round[0] {
		if d := math.Hypot(float64(k.X), float64(k.Y)); d < 498.5 || d > 532 {
			t.Errorf("the circle: %v is %v from the center", k, d)
		}
	}
	// 6, 7, 9.
	if len(f.Glyphs[5]) != 0 || len(f.Glyphs[8]) != 0 || len(glyph(t, f, 6)) != 1 {
		t.Error("a glyph minus itself, a composite, a point:", f.Glyphs[5], f.Glyphs[6], f.Glyphs[8])
	}
	// 8: two straight sides, and all else a radius from an end.
	line := glyph(t, f, 7)
	sides := 0
	for i, k := range line[0] {
		next := line[0][(i+1)%len(line[0])]
		if k.Y == next.Y && max(k.X-next.X, next.X-k.X) >= 1000 {
			sides++
		}
		center := 0.0
		if k.X > 500 {
			center = 1000
		}
		if d := math.Hypot(float64(k.X)-center, float64(k.Y)); d < 97 || d > 103 {
			t.Errorf("the line: %v is %v from its end", k, d)
		}
	}
	if len(line) != 1 || sides != 2 {
		t.Error("the line:", line)
	}
	// 10.
	before, _ := font.Read(b)
	for _, tag := range []string{"what", "cmap", "hhea"} {
		x, _ := sfnt.Find(before.Tables, tag)
		if y, ok := sfnt.Find(f.Tables, tag); !ok || !bytes.Equal(x, y) {
			t.Errorf("the table %s was changed", tag)
		}
	}
	// What the tables tell of the glyphs.
	least, most := simple.Box(nil)
	points, contours := 0, 0
	for id := range f.Glyphs {
		o := glyph(t, f, id)
		a, b := simple.Box(o)
		least, most = api.Point{X: min(least.X, a.X), Y: min(least.Y, a.Y)}, api.Point{X: max(most.X, b.X), Y: max(most.Y, b.Y)}
		points, contours = max(points, outline.Knots(o)), max(contours, len(o))
		if id < 9 && f.Metrics[id].Bearing != a.X || f.Metrics[id].Advance != 500 {
			t.Errorf("glyph %d: %v", id, f.Metrics[id])
		}
	}
	if f.Metrics[9].Bearing != 9 || f.Head.XMin != least.X || f.Head.YMin != least.Y || f.Head.XMax != most.X || f.Head.YMax != most.Y || f.Maxp.Points != points || f.Maxp.Contours != contours {
		t.Error(f.Head, f.Maxp, least, most, points, contours)
	}
}

func TestWindsAfterOverlaps(t *testing.T) {
	// The winding number about a point far from all curves is -1 where the glyph had any, and 0 elsewhere.
	b := file(plain(circle(500), box(-100, -900, 300, 100), ring(-600, -600, 600, -600, 600, 0, -600, 0)), made(part(0, 50, 60), part(0, -300, 200)), plain(circle(300)))
	var ask []string
	for x := -1000; x <= 1000; x += 77 {
		for y := -1000; y <= 1000; y += 83 {
			c, e := script.Print(cmd{Kind: 4, A: 1, At: api.Point{X: 64 * x, Y: 64 * y}})
			if e != api.OK {
				t.Fatal(e)
			}
			ask = append(ask, c)
		}
	}
	_, before, e := script.Run(b, strings.Join(ask, "\n"))
	if e != api.OK {
		t.Fatal(e)
	}
	out, after, e := script.Run(b, "overlaps 1\n"+strings.Join(ask, "\n"))
	if e != api.OK {
		t.Fatal(e)
	}
	checkFont(t, out)
	old, now := strings.Split(before, "\n"), strings.Split(after, "\n")[1:]
	inside, differing := 0, 0
	for i := range ask {
		want := "-1"
		if old[i] == "0" {
			want = "0"
		} else {
			inside++
		}
		if now[i] != want {
			// Only a point within a unit of a curve may differ; there are few of them.
			differing++
		}
	}
	if inside < 100 || differing > 3 {
		t.Errorf("%d of %d points were inside, %d differ", inside, len(ask), differing)
	}
}
