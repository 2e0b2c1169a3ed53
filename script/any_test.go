package script_test

import (
	"math"
	"math/rand"
	"testing"

	"calamus/api"
	"calamus/arc"
	"calamus/be"
	"calamus/compo"
	"calamus/cross"
	"calamus/edit"
	"calamus/expand"
	"calamus/flat"
	"calamus/font"
	"calamus/gauss"
	"calamus/head"
	"calamus/loca"
	"calamus/outline"
	"calamus/pick"
	"calamus/pixel"
	"calamus/quad"
	"calamus/script"
	"calamus/sfnt"
	"calamus/shape"
	"calamus/simple"
	"calamus/snap"
	"calamus/stroke"
	"calamus/tabsum"
	"calamus/trace"
	"calamus/wide"
	"calamus/wind"
)

// A chance makes arguments of all kinds, most of them small, some of them as great as they may be.
type chance struct{ *rand.Rand }

func (r chance) int() int {
	edges := []int{0, 1, -1, 2, 3, 4, 16, 64, 127, 128, 255, 256, 1024, 4096, 32767, 32768, -32768, -32769, 65535, 65536, -65536, 65537, api.MaxSub, -api.MaxSub, api.MaxSub + 1, 2 * api.MaxSub, api.MaxHalf, 1 << 31, 1 << 32, 1 << 58, math.MaxInt, math.MaxInt - 1, math.MinInt, math.MinInt + 1}
	if r.Intn(3) == 0 {
		return edges[r.Intn(len(edges))]
	}
	return r.Intn(41) - 20
}

func (r chance) point() api.Point { return api.Point{X: r.int(), Y: r.int()} }

func (r chance) line() api.Line { return api.Line{A: r.point(), B: r.point()} }

func (r chance) seg() api.Seg {
	return api.Seg{A: r.point(), B: r.point(), C: r.point(), Curve: r.Intn(2) == 0}
}

func (r chance) bytes() []byte {
	b := make([]byte, r.Intn(80))
	r.Read(b)
	for i := range b {
		if r.Intn(2) == 0 {
			b[i] = 0
		}
	}
	return b
}

// some is up to n of what make makes.
func some[T any](r chance, n int, make func() T) []T {
	var l []T
	for range r.Intn(n + 1) {
		l = append(l, make())
	}
	return l
}

func (r chance) contour() api.Contour {
	return some(r, 5, func() api.Knot { return api.Knot{X: r.int(), Y: r.int(), On: r.Intn(2) == 0} })
}

func (r chance) outline() api.Outline { return some(r, 3, r.contour) }

func (r chance) part() api.Part {
	return api.Part{Glyph: r.int(), X: r.int(), Y: r.int(), M: [4]int{r.int(), r.int(), r.int(), r.int()}}
}

func (r chance) edge() api.Edge {
	return api.Edge{A: r.point(), B: r.point(), M: [2]int{r.int(), r.int()}}
}

func (r chance) table() api.Table {
	return api.Table{Tag: []string{"head", "maxp", "hhea", "abcd", "", "glyf", "\xff"}[r.Intn(7)], Data: r.bytes()}
}

func (r chance) pen() api.Pen {
	return api.Pen{Half: r.int(), Join: 1 + r.Intn(4), Limit: r.int(), Cap: 1 + r.Intn(3), Open: r.Intn(2) == 0}
}

func (r chance) font() api.Font {
	f := api.Font{Count: r.int(), Head: api.Head{Em: r.int(), XMin: r.int(), Long: r.Intn(2) == 0}, Maxp: api.Maxp{Glyphs: r.int(), Points: r.int()}}
	if r.Intn(2) == 0 {
		f = sample()
	}
	f.Tables = append(f.Tables, some(r, 3, r.table)...)
	f.Glyphs = append(f.Glyphs, some(r, 3, r.bytes)...)
	f.Metrics = append(f.Metrics, some(r, 3, func() api.Metric { return api.Metric{Advance: r.int(), Bearing: r.int()} })...)
	return f
}

func (r chance) cmd() cmd {
	return cmd{Kind: r.Intn(7) - 1, Op: r.Intn(6), A: r.int(), B: r.int(), To: r.int(), Pen: r.pen(), At: r.point()}
}

func (r chance) wide() wide.Int { return wide.Int{Hi: int64(r.int()), Lo: uint64(r.int())} }

// TestAnyArguments calls each function with whatever its types allow: that it panics, or doesn't end, would end the test.
func TestAnyArguments(t *testing.T) {
	r := chance{rand.New(rand.NewSource(42))}
	for range 4000 {
		numbers(r)
		files(r)
		points(r)
		shapes(r)
	}
}

func numbers(r chance) {
	n, m := int64(r.int()), int64(r.int())
	wide.Small(wide.Add(wide.Of(n), wide.Sub(wide.Neg(r.wide()), wide.Mul(n, m))))
	wide.Cmp(r.wide(), r.wide())
	wide.Sign(r.wide())
	wide.Div(r.wide(), m)
	wide.Root(r.wide())
	be.U(r.bytes(), r.int(), r.int())
	be.S(r.bytes(), r.int(), r.int())
	be.Put(r.int(), r.int())
	be.Cut(r.bytes(), r.int(), r.int())
	be.Lay(r.bytes(), r.int(), r.bytes())
	be.Pad(r.bytes(), r.int())
	tabsum.Adjust(tabsum.More(tabsum.Sum(r.bytes()), r.bytes()))
	arc.Along(r.point(), r.int())
	arc.Normal(r.point(), r.int())
	arc.Steps(r.int())
	arc.Disc(r.point(), r.int())
}

func files(r chance) {
	l := some(r, 5, r.table)
	sfnt.Right(l)
	sfnt.Write(l)
	sfnt.Read(r.bytes())
	sfnt.Find(l, "head")
	sfnt.With(l, r.table())
	head.Head(r.bytes())
	head.PutHead(r.bytes(), api.Head{Em: r.int(), XMin: r.int(), YMax: r.int()})
	head.Maxp(r.bytes())
	head.PutMaxp(r.bytes(), api.Maxp{Glyphs: r.int(), Depth: r.int()})
	head.Count(r.bytes())
	head.PutCount(r.bytes(), r.int())
	loca.Read(r.bytes(), r.Intn(2) == 0, r.int())
	places := some(r, 5, r.int)
	loca.Write(places, r.Intn(2) == 0)
	loca.Long(places)
	loca.Metrics(r.bytes(), r.int(), r.int())
	loca.PutMetrics(r.font().Metrics, r.int())
	simple.Read(r.bytes())
	simple.Write(api.Glyph{Shape: r.outline(), Code: r.bytes()})
	simple.Box(r.outline())
	compo.Read(r.bytes())
	compo.Write(some(r, 3, r.part), r.bytes(), r.point(), r.point())
	f := r.font()
	font.Kind(r.bytes())
	font.Places(f)
	font.Right(f)
	font.Read(r.bytes())
	font.Write(f)
	font.Sync(f)
	expand.Move(r.part(), r.point())
	expand.Of(f.Glyphs, r.int())
	edit.Put(f, r.int(), r.outline())
	edit.Overlaps(f, r.int())
	edit.Join(f, r.Intn(6), r.int(), r.int(), r.int())
	edit.Stroke(f, r.int(), r.pen())
	script.Parse(string(r.bytes()))
	script.Print(r.cmd())
	script.Do(f, r.cmd())
	script.Run(r.bytes(), string(r.bytes()))
}

func points(r chance) {
	l := some(r, 5, r.point)
	gauss.Good(l...)
	gauss.Cross(r.point(), r.point())
	gauss.Dot(r.point(), r.point())
	gauss.Times(r.point(), r.point())
	gauss.Quarter(r.point(), r.int())
	gauss.Turn(r.point(), r.point(), r.point())
	gauss.Area(l)
	outline.Mid(r.point(), r.point())
	outline.Segs(r.contour())
	outline.Flip(r.outline())
	outline.Lift(r.outline())
	outline.Knots(r.outline())
	s := r.seg()
	quad.At(s, r.int(), r.int())
	quad.Round(s, r.int(), r.int())
	quad.Split(s)
	quad.Bend(s)
	quad.Steps(s)
	quad.Box(s)
	flat.Piece(s)
	flat.Lines(r.outline())
	flat.Closed(some(r, 5, r.line))
	cross.On(r.point(), r.line())
	p, _ := cross.Meet(r.line(), r.line())
	cross.Pixel(p)
	cross.Pixel(cross.Point{Kind: r.Intn(4), X: r.wide(), Y: r.wide(), D: r.int()})
}

func shapes(r chance) {
	a, b := some(r, 5, r.line), some(r, 5, r.line)
	pixel.Of(r.point())
	pixel.Hits(r.line(), r.point())
	pixel.Hot(a)
	snap.Chain(r.line(), some(r, 9, r.point))
	edges, _ := snap.Edges(a, b)
	for _, l := range [][]api.Edge{edges, some(r, 3, r.edge)} {
		wind.Around(l, r.int(), r.point())
		wind.Sides(l)
		pick.Ways(r.Intn(6), l)
	}
	wind.Lines(a, r.point())
	pick.In(r.int(), [2]int{r.int(), r.int()})
	trace.Contours(a)
	trace.Lines([][]api.Point{some(r, 3, r.point), some(r, 3, r.point)})
	shape.Of(r.Intn(6), a, b)
	shape.Apply(r.Intn(6), r.outline(), r.outline())
	shape.Clean(r.outline())
	stroke.Right(r.pen())
	path, _ := stroke.Path(r.contour(), r.Intn(2) == 0)
	stroke.Pieces(path, r.pen())
	stroke.Pieces(a, r.pen())
	stroke.Of(r.outline(), r.pen())
}
