package graph

import "concierge/api"

// fact is that somebody stands in a node.
type fact struct {
	in  node
	who api.Object
}

// results is the facts that are known: in a map, and in the order in which they were found.
type results struct {
	known map[fact]int
	found []fact
}

func (r *results) has(f fact) bool { return r.known[f] > 0 }

func (r *results) add(f fact) {
	if !r.has(f) {
		r.found = append(r.found, f)
		r.known[f] = len(r.found)
	}
}

// facts returns all facts on which start depends, and those about start itself, of those that are asked about.
func (w world) facts(start node, asked func(api.Object) bool) []fact {
	nodes, users := w.below(start)
	r := &results{known: map[fact]int{}}
	for _, n := range nodes {
		w.tell(r, n, asked)
	}
	for level := range w.top + 1 {
		w.spread(r, users, level)
	}
	return r.found
}

// tell adds the facts about n that a tuple states by itself.
func (w world) tell(r *results, n node, asked func(api.Object) bool) {
	for _, p := range w.subjects[n] {
		if p.Rel == "" && asked(p.O) {
			r.add(fact{n, p.O})
		}
	}
}

// spread adds what follows from the facts for relations up to a level. All facts about lower levels are known, so that what an ENot takes away there is final.
// An arrow goes by the level of the relation that it begins with: what depends on the arrow depends on that one too, in the same way.
func (w world) spread(r *results, users map[node][]node, level int) {
	// The list grows meanwhile: what follows from what has just been found is looked at as well.
	for i := 0; i < len(r.found); i++ {
		f := r.found[i]
		for _, n := range users[f.in] {
			next := fact{n, f.who}
			if !r.has(next) && w.relation(n).level <= level && w.follows(r, next) {
				r.add(next)
			}
		}
	}
}

// follows reports whether a fact follows from the known ones, one of which is about one of its node's bases.
func (w world) follows(r *results, next fact) bool {
	if !w.isDefined(next.in) {
		return true // each base is enough
	}
	return satisfied(w.relation(next.in).Expr, func(leaf api.Expr) bool {
		return r.has(fact{atom(next.in.o, leaf), next.who})
	})
}

// satisfied reports whether e is satisfied if its ERels and EArrows are as holds says.
func satisfied(e api.Expr, holds func(leaf api.Expr) bool) bool {
	switch e.Kind {
	case api.EOr:
		return satisfied(e.Kids[0], holds) || satisfied(e.Kids[1], holds)
	case api.EAnd:
		return satisfied(e.Kids[0], holds) && satisfied(e.Kids[1], holds)
	case api.ENot:
		return satisfied(e.Kids[0], holds) && !satisfied(e.Kids[1], holds)
	}
	return holds(e)
}

// below returns start and all nodes on which it depends, directly or through others, and for each of them those of which it is a base.
func (w world) below(start node) (nodes []node, users map[node][]node) {
	users = map[node][]node{}
	seen := map[node]int{start: 1}
	nodes = []node{start}
	for i := 0; i < len(nodes); i++ {
		n := nodes[i]
		w.bases(n, func(base node) {
			// The bases of one node come one after the other, so that a repeated one finds n at the end.
			if l := users[base]; len(l) == 0 || l[len(l)-1] != n {
				users[base] = append(l, n)
			}
			if seen[base]++; seen[base] == 1 {
				nodes = append(nodes, base)
			}
		})
	}
	return nodes, users
}
