package match

import (
	"slices"
	"sort"

	"scarf/api"
)

// maxRow is how many Kids of each tree are held against each other one by one: the work is as their product.
const maxRow = 256

// alikeWeight is what it weighs that two trees are the same: more than all else that nodes may have in common.
const alikeWeight = 16

// maxSteps is how many nodes are looked at, each the first Kid of the one ahead, to tell how near two trees are.
const maxSteps = 4

// pairKids pairs Kids of two partners: those that surely belong together, and between these what is near to each other.
func (m *matching) pairKids(xs, ys []int) {
	from := [2]int{}
	for _, sure := range longest(m.sure(xs, ys)) {
		m.pairRow(xs[from[0]:sure[0]], ys[from[1]:sure[1]])
		m.pair(xs[sure[0]], ys[sure[1]])
		from = [2]int{sure[0] + 1, sure[1] + 1}
	}
	m.pairRow(xs[from[0]:], ys[from[1]:])
}

// sure tells which of xs and ys, by their numbers in these rows, are partners already, or alike to each other alone.
func (m *matching) sure(xs, ys []int) [][2]int {
	seen := map[int][2][]int{}
	for side, row := range [2][]int{xs, ys} {
		for i, at := range row {
			if m.free(side, at) {
				mark := m.marks[side][at]
				rows := seen[mark]
				rows[side] = append(rows[side], i)
				seen[mark] = rows
			}
		}
	}
	var l [][2]int
	for i, x := range xs {
		if !m.free(0, x) {
			if j, ok := slices.BinarySearch(ys, m.mates[0][x]); ok {
				l = append(l, [2]int{i, j})
			}
		} else if rows := seen[m.marks[0][x]]; len(rows[0]) == 1 && len(rows[1]) == 1 {
			l = append(l, [2]int{i, rows[1][0]})
		}
	}
	return l
}

// longest tells, of pairs that rise by their first number, as many as can be that rise by the second one, too.
func longest(l [][2]int) [][2]int {
	var ends []int // of each length the place in l of a row's last pair: the row whose last pair is least
	before := make([]int, len(l))
	for i, pair := range l {
		n := sort.Search(len(ends), func(k int) bool { return l[ends[k]][1] > pair[1] })
		if n > 0 {
			before[i] = ends[n-1]
		}
		if n == len(ends) {
			ends = append(ends, i)
		}
		ends[n] = i
	}
	if len(ends) == 0 {
		return nil
	}
	row := make([][2]int, len(ends))
	at := ends[len(ends)-1]
	for n := len(row) - 1; n >= 0; n-- {
		row[n] = l[at]
		at = before[at]
	}
	return row
}

// pairRow pairs, of Kids of two partners, those that are near to each other, in one order.
func (m *matching) pairRow(xs, ys []int) {
	for len(xs) > 0 && len(ys) > 0 && m.near(xs[0], ys[0]) == alikeWeight {
		m.pair(xs[0], ys[0])
		xs, ys = xs[1:], ys[1:]
	}
	for len(xs) > 0 && len(ys) > 0 && m.near(xs[len(xs)-1], ys[len(ys)-1]) == alikeWeight {
		m.pair(xs[len(xs)-1], ys[len(ys)-1])
		xs, ys = xs[:len(xs)-1], ys[:len(ys)-1]
	}
	for len(xs) > 0 && len(ys) > 0 {
		n, k := min(maxRow, len(xs)), min(maxRow, len(ys))
		m.pairPiece(xs[:n], ys[:k])
		xs, ys = xs[n:], ys[k:]
	}
}

// pairPiece pairs Kids in one order, so that all pairs together weigh as much as can be.
func (m *matching) pairPiece(xs, ys []int) {
	weights, sums := m.weigh(xs, ys)
	i, j := 0, 0
	for i < len(xs) && j < len(ys) {
		switch weight := weights[i][j]; {
		case weight > 0 && sums[i][j] == weight+sums[i+1][j+1]:
			m.pair(xs[i], ys[j])
			i++
			j++
		case sums[i][j] == sums[i+1][j]:
			i++
		default:
			j++
		}
	}
}

// weigh tells how near any two Kids are, and how much the pairs of those from any two on can weigh together.
func (m *matching) weigh(xs, ys []int) (weights, sums [][]int) {
	weights = make([][]int, len(xs))
	sums = make([][]int, len(xs)+1)
	sums[len(xs)] = make([]int, len(ys)+1)
	for i := len(xs) - 1; i >= 0; i-- {
		weights[i] = make([]int, len(ys))
		sums[i] = make([]int, len(ys)+1)
		for j := len(ys) - 1; j >= 0; j-- {
			weights[i][j] = m.near(xs[i], ys[j])
			sums[i][j] = max(sums[i+1][j], sums[i][j+1], weights[i][j]+sums[i+1][j+1])
		}
	}
	return weights, sums
}

// near tells how near to each other the trees at x and y are; 0, if they are no pair.
func (m *matching) near(x, y int) int {
	a, b := m.plans[0].Nodes[x], m.plans[1].Nodes[y]
	switch {
	case !m.free(0, x) || !m.free(1, y) || a.Kind != b.Kind:
		return 0
	case m.alike(x, y):
		return alikeWeight
	case m.holds(0, x, 1, y) || m.holds(1, y, 0, x):
		// What stands whole in the other one is the partner of what it is there, not of what was put around it.
		return 0
	case isNamed(a.Kind) && a.Text != b.Text && !m.alikeAtEnd(x, y):
		return 0
	}
	return m.common(x, y)
}

// common tells how much the nodes at x and y, which are of one kind, and those at their fronts have in common.
func (m *matching) common(x, y int) int {
	weight := 0
	if m.alikeAtEnd(x, y) {
		weight += 2
	}
	for range maxSteps {
		a, b := m.plans[0].Nodes[x], m.plans[1].Nodes[y]
		if a.Kind != b.Kind {
			break
		}
		weight++
		if a.Text == b.Text {
			weight++
		}
		if len(a.Kids) == 0 || len(b.Kids) == 0 {
			break
		}
		x, y = x+1, y+1
	}
	return weight
}

// alikeAtEnd tells whether the last Kids of x and y are alike.
func (m *matching) alikeAtEnd(x, y int) bool {
	xs, ys := m.plans[0].Kids[x], m.plans[1].Kids[y]
	return len(xs) > 0 && len(ys) > 0 && m.alike(xs[len(xs)-1], ys[len(ys)-1])
}

// holds tells whether what stands at a place of the tree other, if it is more than one node, stands below a place of the tree side, too.
func (m *matching) holds(side, at, other, its int) bool {
	if m.plans[other].Size[its] == 1 {
		return false
	}
	places := m.where[side][m.marks[other][its]]
	i, _ := slices.BinarySearch(places, at+1)
	return i < len(places) && places[i] < at+m.plans[side].Size[at]
}

// isNamed tells whether a node of that kind says what its name is: with another name it is another thing.
func isNamed(kind int) bool {
	switch kind {
	case api.KConst, api.KVar, api.KType, api.KFunc, api.KField, api.KParam:
		return true
	}
	return false
}
