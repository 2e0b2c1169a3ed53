package wind

// A row holds numbers in an order, as a tree: what is to the left of a number comes ahead of it. The higher of two numbers in the tree is the one with the greater rank; as ranks have nothing to do with the order, no branch is much longer than others.
type row struct {
	root        int32
	left, right []int32
}

// none is no number.
const none = -1

// newRow is an empty row for numbers from 0 to n - 1.
func newRow(n int) *row {
	r := &row{root: none, left: make([]int32, n), right: make([]int32, n)}
	for i := range n {
		r.left[i], r.right[i] = none, none
	}
	return r
}

// rank is a number that is as good as any other one, but the same each time.
func rank(i int32) uint32 {
	n := uint32(i) + 1
	n = (n ^ n>>16) * 0x85ebca6b
	n = (n ^ n>>13) * 0xc2b2ae35
	return n ^ n>>16
}

// split takes a part asunder: the numbers at its start for which ahead holds, and the others.
func (r *row) split(part int32, ahead func(i int32) bool) (start, rest int32) {
	if part == none {
		return none, none
	}
	if ahead(part) {
		r.right[part], rest = r.split(r.right[part], ahead)
		return part, rest
	}
	start, r.left[part] = r.split(r.left[part], ahead)
	return start, part
}

// join is one part after the other.
func (r *row) join(a, b int32) int32 {
	switch {
	case a == none:
		return b
	case b == none:
		return a
	case rank(a) > rank(b):
		r.right[a] = r.join(r.right[a], b)
		return a
	}
	r.left[b] = r.join(a, r.left[b])
	return b
}

// first is the first number of a part.
func (r *row) first(part int32) int32 {
	if part == none {
		return none
	}
	for r.left[part] != none {
		part = r.left[part]
	}
	return part
}

// last is the last number of a part.
func (r *row) last(part int32) int32 {
	if part == none {
		return none
	}
	for r.right[part] != none {
		part = r.right[part]
	}
	return part
}

// size is how many numbers a part has.
func (r *row) size(part int32) int {
	if part == none {
		return 0
	}
	return r.size(r.left[part]) + 1 + r.size(r.right[part])
}
