package tuple

import (
	"slices"
	"sort"
	"strings"

	"concierge/api"
	"concierge/names"
)

// Insert returns l with the tuples of more, each once, sorted.
func Insert(l, more []api.Tuple) []api.Tuple {
	all := slices.Concat(l, more)
	sort.Slice(all, func(i, j int) bool { return names.Less(all[i], all[j]) })
	// Less tells any two tuples apart, so that the same ones stand side by side.
	return those(all, func(i int) bool { return i == 0 || all[i] != all[i-1] })
}

// Remove returns l without the tuples that are in gone.
func Remove(l, gone []api.Tuple) []api.Tuple {
	times := map[api.Tuple]int{}
	for _, t := range gone {
		times[t]++
	}
	return those(l, func(i int) bool { return times[l[i]] == 0 })
}

// Of returns the tuples of l with an object and a relation.
func Of(l []api.Tuple, o api.Object, rel string) []api.Tuple {
	return those(l, func(i int) bool { return l[i].O == o && l[i].Rel == rel })
}

// those returns copies of the tuples of l whose numbers are wanted, in the order of l.
func those(l []api.Tuple, wanted func(i int) bool) []api.Tuple {
	var found []api.Tuple
	for i, t := range l {
		if wanted(i) {
			found = append(found, copyOf(t))
		}
	}
	return found
}

// copyOf returns a tuple that shares no memory with t.
func copyOf(t api.Tuple) api.Tuple {
	return api.Tuple{O: copyOfObject(t.O), Rel: strings.Clone(t.Rel), S: api.Subject{O: copyOfObject(t.S.O), Rel: strings.Clone(t.S.Rel)}}
}

func copyOfObject(o api.Object) api.Object {
	return object(strings.Clone(o.Type), strings.Clone(o.ID))
}
