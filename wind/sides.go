package wind

import (
	"cmp"
	"slices"

	"calamus/api"
	"calamus/cross"
	"calamus/gauss"
)

// Sides is how often both operands wind about the points beside each edge.
func Sides(l []api.Edge) ([]api.Side, api.Errno) {
	if !valid(l) {
		return nil, api.ErrForm
	}
	s := sweep{edges: l, sides: make([]api.Side, len(l)), row: newRow(len(l))}
	starts, ends := s.orders()
	for i, j := 0, 0; j < len(ends); {
		p := l[ends[j]].B
		if i < len(starts) && compare(l[starts[i]].A, p) < 0 {
			p = l[starts[i]].A
		}
		nextI, nextJ := i, j
		for nextI < len(starts) && l[starts[nextI]].A == p {
			nextI++
		}
		for nextJ < len(ends) && l[ends[nextJ]].B == p {
			nextJ++
		}
		if !s.pass(p, starts[i:nextI], ends[j:nextJ]) {
			return nil, api.ErrForm
		}
		i, j = nextI, nextJ
	}
	return s.sides, api.OK
}

// A sweep passes over the points from the least one on, by X and then by Y, and knows which edges lie beneath one another there.
type sweep struct {
	edges []api.Edge
	sides []api.Side
	row   *row
}

// orders is the edges by their starts, those with one start from the lowest on, and the edges by their ends.
func (s *sweep) orders() (starts, ends []int32) {
	starts = make([]int32, len(s.edges))
	for i := range starts {
		starts[i] = int32(i)
	}
	ends = slices.Clone(starts)
	slices.SortFunc(starts, func(i, j int32) int {
		a, b := s.edges[i], s.edges[j]
		if a.A != b.A {
			return compare(a.A, b.A)
		}
		turn, _ := gauss.Turn(a.A, b.B, a.B)
		return turn
	})
	slices.SortFunc(ends, func(i, j int32) int { return compare(s.edges[i].B, s.edges[j].B) })
	return starts, ends
}

// compare says which point is the lesser one: by X, then by Y.
func compare(p, q api.Point) int {
	if p.X != q.X {
		return cmp.Compare(p.X, q.X)
	}
	return cmp.Compare(p.Y, q.Y)
}

// pass goes on to a point at which edges start and end, and says whether all is as it should be there.
func (s *sweep) pass(p api.Point, starts, ends []int32) bool {
	below, rest := s.row.split(s.row.root, func(i int32) bool { return s.side(i, p) > 0 })
	through, above := s.row.split(rest, func(i int32) bool { return s.side(i, p) == 0 })
	// All that end here go through the point. If there are others, they go on behind it.
	if !s.balanced(starts, ends) || s.row.size(through) != len(ends) {
		return false
	}
	lowest, highest := s.row.last(below), s.row.first(above)
	if !s.fits(lowest, highest, starts) {
		return false
	}
	here := [2]int{}
	if lowest != none {
		here = s.sides[lowest].L
	}
	s.row.root = below
	for _, i := range starts {
		s.sides[i].R = here
		for k := range here {
			here[k] += s.edges[i].M[k]
		}
		s.sides[i].L = here
		s.row.root = s.row.join(s.row.root, i)
	}
	s.row.root = s.row.join(s.row.root, above)
	return true
}

// side says on which side of an edge a point is: 1 if above it, -1 if below it.
func (s *sweep) side(i int32, p api.Point) int {
	turn, _ := gauss.Turn(s.edges[i].A, s.edges[i].B, p)
	return turn
}

// balanced says whether of both operands as many edges leave a point as arrive there.
func (s *sweep) balanced(starts, ends []int32) bool {
	for k := range 2 {
		var sum tally
		for _, i := range starts {
			sum.add(s.edges[i].M[k], 1)
		}
		for _, i := range ends {
			sum.add(s.edges[i].M[k], -1)
		}
		if !sum.zero() {
			return false
		}
	}
	return true
}

// A tally is a sum that may be greater than an int: high times 2^32, and low.
type tally struct{ high, low int }

const lowBits = 1<<32 - 1

// add adds a number, or takes it away.
func (t *tally) add(n, sign int) {
	t.high += sign * (n >> 32)
	t.low += sign * (n & lowBits)
}

// zero says whether the sum is 0.
func (t *tally) zero() bool { return t.low&lowBits == 0 && t.high+t.low>>32 == 0 }

// fits says whether edges that start at a point, from the lowest on, have no more than ends in common with one another and with those below and above.
func (s *sweep) fits(lowest, highest int32, starts []int32) bool {
	last := lowest
	for _, i := range starts {
		if !s.apart(last, i) {
			return false
		}
		last = i
	}
	return s.apart(last, highest)
}

// apart says whether edges have nothing in common but an end of both. Where there is no edge, nothing is in common.
func (s *sweep) apart(i, j int32) bool {
	if i == none || j == none {
		return true
	}
	a, b := s.edges[i], s.edges[j]
	common, _ := cross.Meet(api.Line{A: a.A, B: a.B}, api.Line{A: b.A, B: b.B})
	switch common.Kind {
	case 0:
		return true
	case 1:
		return a.A == b.A || a.A == b.B || a.B == b.A || a.B == b.B
	}
	return false
}
