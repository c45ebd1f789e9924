package fact

import "slices"

// Which of two lists a fact is in.
const (
	inFirst  = 1
	inSecond = 2
	inBoth   = inFirst | inSecond
)

// Set tells l's facts, rising, each once.
func Set(l []Fact) []Fact {
	rising := slices.Clone(l)
	slices.SortFunc(rising, compare)
	var set []Fact
	for i, f := range rising {
		if i == 0 || f != rising[i-1] {
			set = append(set, f)
		}
	}
	return set
}

// Both tells what is in a and in b.
func Both(a, b []Fact) []Fact {
	return together(a, b, func(in int) bool { return in == inBoth })
}

// Minus tells what is in a and not in b.
func Minus(a, b []Fact) []Fact {
	return together(a, b, func(in int) bool { return in == inFirst })
}

// Any tells what is in a or in b.
func Any(a, b []Fact) []Fact {
	return together(a, b, func(int) bool { return true })
}

// together tells, as a set, the facts of two lists that are to be kept, by which of the lists each is in.
func together(a, b []Fact, keep func(in int) bool) []Fact {
	in := map[Fact]int{}
	for _, f := range a {
		in[f] |= inFirst
	}
	for _, f := range b {
		in[f] |= inSecond
	}
	var kept []Fact
	for f, lists := range in {
		if keep(lists) {
			kept = append(kept, f)
		}
	}
	return Set(kept)
}
