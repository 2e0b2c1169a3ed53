package snap

import (
	"cmp"
	"slices"

	"calamus/api"
)

// A tree finds the pixels near a line without a look at each of them: pixels that lie close to one another stand in groups, and so do groups.
type tree struct {
	points []api.Point
	levels [][]box // the boxes of groups of points, of groups of these, and so on
}

// A box holds pixels from the least X and Y to the greatest.
type box struct{ least, most api.Point }

// group is how many points or boxes one box holds.
const group = 8

// plant is the tree of some pixels in range.
func plant(pixels []api.Point) *tree {
	t := &tree{points: slices.Clone(pixels)}
	slices.SortFunc(t.points, func(p, q api.Point) int { return cmp.Compare(mixed(p), mixed(q)) })
	level := make([]box, len(t.points))
	for i, p := range t.points {
		level[i] = box{p, p}
	}
	for len(level) > 1 {
		level = grouped(level)
		t.levels = append(t.levels, level)
	}
	return t
}

// mixed is a number of the bits of X and Y in turn. Points whose numbers are close lie close to one another.
func mixed(p api.Point) int {
	const low = api.MaxSub / api.Unit // makes X and Y of pixels in range positive
	return spread(p.X+low)<<1 | spread(p.Y+low)
}

// spread is a number of at most 32 bits with a zero between each two of them.
func spread(n int) int {
	n = (n | n<<16) & 0x0000ffff0000ffff
	n = (n | n<<8) & 0x00ff00ff00ff00ff
	n = (n | n<<4) & 0x0f0f0f0f0f0f0f0f
	n = (n | n<<2) & 0x3333333333333333
	return (n | n<<1) & 0x5555555555555555
}

// grouped is the boxes of groups of boxes.
func grouped(l []box) []box {
	var all []box
	for part := range slices.Chunk(l, group) {
		b := part[0]
		for _, x := range part[1:] {
			b.least = api.Point{X: min(b.least.X, x.least.X), Y: min(b.least.Y, x.least.Y)}
			b.most = api.Point{X: max(b.most.X, x.most.X), Y: max(b.most.Y, x.most.Y)}
		}
		all = append(all, b)
	}
	return all
}

// near is all pixels that a line goes through, and a few others.
func (t *tree) near(l api.Line) []api.Point {
	var found []api.Point
	var search func(level, at int)
	search = func(level, at int) {
		if level == 0 {
			if (box{t.points[at], t.points[at]}).touches(l) {
				found = append(found, t.points[at])
			}
			return
		}
		if !t.levels[level-1][at].touches(l) {
			return
		}
		below := len(t.points)
		if level > 1 {
			below = len(t.levels[level-2])
		}
		for i := group * at; i < min(group*(at+1), below); i++ {
			search(level-1, i)
		}
	}
	if len(t.points) > 0 {
		search(len(t.levels), 0)
	}
	return found
}

// touches says whether a line may have a point in common with the pixels of a box. Twice the box is reckoned with, so that its center is on the grid.
func (b box) touches(l api.Line) bool {
	// What leads from the line's start to the center, and from the center to the upper right corner.
	center := api.Point{X: api.Unit*(b.least.X+b.most.X) - 2*l.A.X, Y: api.Unit*(b.least.Y+b.most.Y) - 2*l.A.Y}
	corner := api.Point{X: api.Unit * (b.most.X - b.least.X + 1), Y: api.Unit * (b.most.Y - b.least.Y + 1)}
	v := api.Point{X: l.B.X - l.A.X, Y: l.B.Y - l.A.Y}
	if away(center.X, v.X, corner.X) || away(center.Y, v.Y, corner.Y) {
		return false
	}
	return size(v.X*center.Y-v.Y*center.X) <= size(v.X)*corner.Y+size(v.Y)*corner.X
}

// away says whether, in one coordinate, the way from 0 to twice v stays farther than reach from the center.
func away(center, v, reach int) bool {
	return center+reach < min(0, 2*v) || center-reach > max(0, 2*v)
}

// size is a number without its sign.
func size(n int) int { return max(n, -n) }
