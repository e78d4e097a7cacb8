package frame

import (
	"slices"

	"concierge/api"
	"concierge/num"
)

// reader takes bytes apart from their beginning on. Where they cannot go on so, its methods panic with an api.Errno, which the exported functions recover.
type reader struct {
	rest []byte // what is still to be read
}

// take returns the next n bytes, where they are.
func (r *reader) take(n int) []byte {
	if n > len(r.rest) {
		panic(api.ErrForm)
	}
	taken := r.rest[:n]
	r.rest = r.rest[n:]
	return taken
}

// end is where nothing may follow.
func (r *reader) end() {
	if len(r.rest) > 0 {
		panic(api.ErrForm)
	}
}

// number reads what num's Put wrote.
func (r *reader) number() int {
	n, size := num.Get(r.rest)
	if size == 0 {
		panic(api.ErrForm)
	}
	r.take(size)
	return n
}

// wide reads what num's Wide wrote.
func (r *reader) wide() int {
	n, _ := num.Narrow(r.take(wideSize)) // eight bytes are always a number, if perhaps a negative one
	return n
}

// frame reads a frame as far as its data, which it leaves where they are, and asks for nothing but their length.
func (r *reader) frame() api.Frame {
	r.take(1)
	n := r.number()
	f := api.Frame{Gen: r.wide(), Seq: r.wide()}
	f.Data = r.take(n)
	return f
}

// puts reads a batch. The list grows with what there is, since the number ahead of it may be any.
func (r *reader) puts() []api.Put {
	var l []api.Put
	for range r.number() {
		l = append(l, r.put())
	}
	return l
}

// put reads a put of a batch.
func (r *reader) put() api.Put {
	switch r.take(1)[0] {
	case gone:
		return api.Put{Key: r.part(), Gone: true}
	case kept:
		key := r.part()
		return api.Put{Key: key, Value: r.part()}
	}
	panic(api.ErrForm)
}

// part reads a length and so many bytes, which are the caller's.
func (r *reader) part() []byte {
	return slices.Clone(r.take(r.number()))
}
