package rules

import "concierge/api"

// levels returns the level of each relation of each type of s, whose index it is, or endless instead of the level of one that has none.
func (known index) levels(s api.Schema) (levels [][]int, endless int) {
	// Each level but 0 is 1 above that of another relation, so none is as great as the number of relations.
	endless = len(known)
	heights := known.heights(endless)
	for _, t := range s.Types {
		row := make([]int, len(t.Rels))
		for j, r := range t.Rels {
			row[j] = heights[node{Type: t.Name, Rel: r.Name}]
		}
		levels = append(levels, row)
	}
	return levels, endless
}

// heights returns the least numbers, from 0 on, that are as far above one another as the dependencies ask for, but none above most.
func (known index) heights(most int) map[node]int {
	heights := map[node]int{}
	dependents := known.dependents()
	var raise func(n node, to int)
	raise = func(n node, to int) {
		to = min(to, most)
		if to <= heights[n] {
			return
		}
		heights[n] = to
		for from, step := range dependents[n] {
			raise(from, to+step)
		}
	}
	for _, above := range dependents {
		for from, step := range above {
			raise(from, step)
		}
	}
	return heights
}

// dependents returns, for each relation, those that depend on it, and how far each stands above it. What depends on it in both ways stands above it.
func (known index) dependents() map[node]map[node]int {
	all := map[node]map[node]int{}
	for from := range known {
		if from.Rel == "" {
			continue // a type, which depends on nothing
		}
		known.dependencies(from, func(on node, step int) {
			if all[on] == nil {
				all[on] = map[node]int{}
			}
			all[on][from] = max(all[on][from], step)
		})
	}
	return all
}
