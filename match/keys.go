package match

import "scarf/api"

// key tells an item of a file from its others.
type key struct {
	kind     int
	text     string
	receiver int // the number of its type's tree; -1, if there is none
}

// pairAnchors pairs the items whose key just one item of each tree has. Both trees are Right.
func (m *matching) pairAnchors() {
	items := map[key][2][]int{}
	for side, plan := range m.plans {
		for _, at := range plan.Kids[0] {
			if k, ok := m.keyOf(side, at); ok {
				places := items[k]
				places[side] = append(places[side], at)
				items[k] = places
			}
		}
	}
	for _, x := range m.plans[0].Kids[0] {
		k, ok := m.keyOf(0, x)
		if places := items[k]; ok && len(places[0]) == 1 && len(places[1]) == 1 {
			m.pair(x, places[1][0])
		}
	}
}

// keyOf tells the key of the item at a place; false, if it has none.
func (m *matching) keyOf(side, at int) (key, bool) {
	n := m.plans[side].Nodes[at]
	k := key{kind: n.Kind, text: n.Text, receiver: -1}
	switch n.Kind {
	case api.KPackage:
		k.text = ""
	case api.KConst, api.KVar, api.KType:
	case api.KFunc:
		receiver := m.plans[side].Kids[at][0]
		for _, its := range m.plans[side].Kids[receiver] {
			k.receiver = m.marks[side][its]
		}
	default:
		return key{}, false
	}
	return k, true
}
