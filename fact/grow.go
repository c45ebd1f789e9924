package fact

import "scarf/api"

// seat is where a class stands in a row: whose Kids these are, and which of them stands ahead of it.
type seat struct {
	parent, ahead int
}

// told is what facts tell of classes.
type told struct {
	words map[int]api.Node // what each class is, but for its Kids
	next  map[seat]int     // which Kid stands where, or that the row ends there
}

// Tree tells the tree of facts, and the classes of its places; api.ErrFacts, if they are no tree's.
func Tree(l []Fact) (api.Node, []int, api.Errno) {
	known, ok := tell(Set(l))
	if !ok {
		return api.Node{}, nil, api.ErrFacts
	}
	rows, root, ok := known.rows()
	if !ok {
		return api.Node{}, nil, api.ErrFacts
	}
	t, classes := known.grow(rows, root)
	// What goes round in a ring is below no root: it is missing.
	if len(classes) != len(known.words) {
		return api.Node{}, nil, api.ErrFacts
	}
	return t, classes, api.OK
}

// tell tells what facts, each of which is given once, tell; false, if one of them is none or says otherwise than another one.
func tell(set []Fact) (told, bool) {
	t := told{map[int]api.Node{}, map[seat]int{}}
	for _, f := range set {
		n, at := api.Node{Kind: f.Kind, Text: f.Text, Trail: f.Trail}, seat{f.Class, f.A}
		_, named := t.words[f.Class]
		_, taken := t.next[at]
		switch {
		case f.Class < 0:
			return told{}, false
		case f == wordOf(f.Class, n) && !named:
			t.words[f.Class] = n
		case f == linkOf(f.Class, f.A, f.B) && !taken:
			t.next[at] = f.B
		default:
			return told{}, false
		}
	}
	return t, true
}

// rows tells the classes of each class's Kids, and the one that is nobody's Kid;
// false, if a class has no whole row, if one is a Kid twice or unknown, if a link is in no row, or if there isn't just one root.
func (t told) rows() (map[int][]int, int, bool) {
	rows, parents, links := map[int][]int{}, map[int]int{}, 0
	for class := range t.words {
		ahead := end
		for {
			kid, ok := t.next[seat{class, ahead}]
			if !ok {
				return nil, 0, false
			}
			links++
			if kid == end {
				break
			}
			_, named := t.words[kid]
			_, twice := parents[kid]
			if !named || twice {
				return nil, 0, false
			}
			rows[class] = append(rows[class], kid)
			parents[kid] = class
			ahead = kid
		}
	}
	root, ok := t.root(parents)
	return rows, root, ok && links == len(t.next)
}

// root tells the class that has no parent; false, if there isn't just one.
func (t told) root(parents map[int]int) (int, bool) {
	root, count := 0, 0
	for class := range t.words {
		if _, ok := parents[class]; !ok {
			root = class
			count++
		}
	}
	return root, count == 1
}

// grow tells the tree below root, by the rows of all classes' Kids, and the classes of its places.
func (t told) grow(rows map[int][]int, root int) (api.Node, []int) {
	var tree api.Node
	var classes []int
	var below func(n *api.Node, class int)
	// A long sum is nested by its first Kids, deeper than calls may be within one another:
	// so it goes down these by a loop, and calls itself for the others only.
	below = func(n *api.Node, class int) {
		var line []*api.Node
		from := len(classes)
		for {
			*n = t.words[class]
			n.Kids = make([]api.Node, len(rows[class]))
			line = append(line, n)
			classes = append(classes, class)
			if len(n.Kids) == 0 {
				break
			}
			n, class = &n.Kids[0], rows[class][0]
		}
		for i := len(line) - 1; i >= 0; i-- {
			kids := rows[classes[from+i]]
			for k := 1; k < len(kids); k++ {
				below(&line[i].Kids[k], kids[k])
			}
		}
	}
	below(&tree, root)
	return tree, classes
}
