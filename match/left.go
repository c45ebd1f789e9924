package match

import "slices"

// spot is where a tree that has no partner stands, and what tree it is.
type spot struct {
	over int // the place in b of the next node above that is one of a pair
	mark int
}

// pairLeft pairs what is left: trees that are the same, of which one is a Kid of a node that has a partner,
// and the other stands somewhere below that partner, under nodes that have none.
// So what was moved into something new, or out of something old, stays what it was.
func (m *matching) pairLeft() {
	over := [2][]int{m.over(0), m.over(1)}
	spots := m.spots(over[1])
next:
	for _, x := range m.left() {
		if !m.free(0, x) {
			continue
		}
		isKid := m.plans[0].Parent[x] == over[0][x]
		for _, y := range spots[spot{m.mates[0][over[0][x]], m.marks[0][x]}] {
			if m.free(1, y) && (isKid || m.plans[1].Parent[y] == over[1][y]) {
				m.pair(x, y)
				continue next
			}
		}
	}
}

// left tells the places of a that have no partner, those of greater trees first:
// so a tree that has no partner yet is one in which nothing has.
func (m *matching) left() []int {
	var l []int
	for at := range m.mates[0] {
		if m.free(0, at) {
			l = append(l, at)
		}
	}
	size := m.plans[0].Size
	slices.SortStableFunc(l, func(x, y int) int { return size[y] - size[x] })
	return l
}

// spots tells the places of b that have no partner by where they stand, Kids of partners first.
func (m *matching) spots(over []int) map[spot][]int {
	l := map[spot][]int{}
	for _, kids := range []bool{true, false} {
		for at, parent := range m.plans[1].Parent {
			if m.free(1, at) && kids == (parent == over[at]) {
				s := spot{over[at], m.marks[1][at]}
				l[s] = append(l[s], at)
			}
		}
	}
	return l
}

// over tells of each place of that tree the next node above that has a partner; of the root, which has one, the root.
func (m *matching) over(side int) []int {
	over := make([]int, len(m.mates[side]))
	for at, parent := range m.plans[side].Parent {
		switch {
		case at == 0 || !m.free(side, parent):
			over[at] = max(parent, 0)
		default:
			over[at] = over[parent]
		}
	}
	return over
}
