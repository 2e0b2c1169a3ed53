package stroke

import (
	"slices"

	"calamus/api"
	"calamus/arc"
)

// A work is the pieces that a pen has covered so far.
type work struct {
	pen    api.Pen
	pieces [][]api.Point
}

// put adds a piece.
func (w *work) put(corners ...api.Point) {
	w.pieces = append(w.pieces, slices.Clone(corners))
}

// assemble is the pieces of a path: bodies and joins, and then the caps.
func assemble(path []api.Line, p api.Pen) [][]api.Point {
	w := work{pen: p}
	normals := make([]api.Point, len(path))
	for i, l := range path {
		normals[i], _ = arc.Normal(plus(l.B, minus(l.A)), p.Half)
	}
	last := len(path) - 1
	for i, l := range path {
		n := normals[i]
		w.put(plus(l.A, minus(n)), plus(l.B, minus(n)), plus(l.B, n), plus(l.A, n))
		if i < last || !p.Open {
			w.join(l.B, n, normals[(i+1)%len(path)])
		}
	}
	if p.Open && last >= 0 {
		// Seen from its end, the first line goes the other way.
		w.finish(path[0].A, minus(normals[0]))
		w.finish(path[last].B, normals[last])
	}
	return w.pieces
}

// plus is the sum of points.
func plus(l ...api.Point) api.Point {
	sum := api.Point{}
	for _, p := range l {
		sum.X += p.X
		sum.Y += p.Y
	}
	return sum
}

// minus is the other side of 0 0.
func minus(p api.Point) api.Point { return api.Point{X: -p.X, Y: -p.Y} }

// cross is the cross product of vectors, of which the tip of a miter may be longer than points in range are.
func cross(a, b api.Point) int { return a.X*b.Y - a.Y*b.X }

// round covers a disc about a point.
func (w *work) round(v api.Point) {
	corners, _ := arc.Disc(v, w.pen.Half)
	w.put(corners...)
}

// join covers what is between two lines at a point, by the normals of the line before it and of the one behind it.
func (w *work) join(v, n, m api.Point) {
	// Corners are told as vectors from the point, which is a corner itself.
	from := func(vectors ...api.Point) {
		corners := []api.Point{v}
		for _, x := range vectors {
			corners = append(corners, plus(v, x))
		}
		w.put(corners...)
	}
	k := cross(n, m)
	second, third := minus(n), minus(m)
	if k < 0 {
		second, third = m, n
	}
	switch {
	case w.pen.Join == api.Round:
		w.round(v)
	case k == 0:
		// The lines go on straight, or straight back.
	case w.pen.Join == api.Bevel:
		from(second, third)
	default:
		tip, ok := w.tip(n, m)
		if k > 0 {
			tip = minus(tip)
		}
		if ok && cross(second, tip) > 0 && cross(tip, third) > 0 {
			from(second, tip, third)
		} else {
			from(second, third)
		}
	}
}

// tip is how far a miter between lines with these normals leads to the left, and whether it may be so long.
func (w *work) tip(n, m api.Point) (api.Point, bool) {
	s := plus(n, m)
	square := s.X*s.X + s.Y*s.Y
	half, limit := w.pen.Half, w.pen.Limit
	if square == 0 || 4*half*half > limit*limit*square {
		return api.Point{}, false
	}
	twice := 2 * half * half
	return api.Point{X: nearest(s.X*twice, square), Y: nearest(s.Y*twice, square)}, true
}

// nearest is n divided by d, which is positive, to the nearest integer, halves up.
func nearest(n, d int) int {
	q := (2*n + d) / (2 * d)
	if (2*n+d)%(2*d) < 0 {
		// Division cuts what is below 0 off upwards.
		q--
	}
	return q
}

// finish covers what is behind the end of a path, by the normal of the line that leads there.
func (w *work) finish(v, n api.Point) {
	switch w.pen.Cap {
	case api.Round:
		w.round(v)
	case api.Square:
		ahead := api.Point{X: n.Y, Y: -n.X}
		w.put(plus(v, n), plus(v, minus(n)), plus(v, minus(n), ahead), plus(v, n, ahead))
	}
}
