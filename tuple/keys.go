package tuple

import (
	"concierge/api"
	"concierge/key"
)

// The first part of a key tells by what it sorts behind the tenant.
const (
	byObject  = "f"
	bySubject = "r"
)

// Key returns the key by which the tuples of a tenant sort as they do themselves.
func Key(tenant string, t api.Tuple) []byte {
	if !isTuple(t) {
		return nil
	}
	return key.Texts(byObject, tenant, t.O.Type, t.O.ID, t.Rel, t.S.O.Type, t.S.O.ID, t.S.Rel)
}

// Back returns the key by which the tuples of a tenant sort by their subjects first.
func Back(tenant string, t api.Tuple) []byte {
	if !isTuple(t) {
		return nil
	}
	return key.Texts(bySubject, tenant, t.S.O.Type, t.S.O.ID, t.S.Rel, t.O.Type, t.O.ID, t.Rel)
}

// Read returns the tenant and the tuple whose Key is b.
func Read(b []byte) (string, api.Tuple, bool) {
	return read(b, byObject, func(p [6]string) api.Tuple {
		return api.Tuple{O: object(p[0], p[1]), Rel: p[2], S: subject(p[3], p[4], p[5])}
	})
}

// ReadBack returns the tenant and the tuple whose Back is b.
func ReadBack(b []byte) (string, api.Tuple, bool) {
	return read(b, bySubject, func(p [6]string) api.Tuple {
		return api.Tuple{O: object(p[3], p[4]), Rel: p[5], S: subject(p[0], p[1], p[2])}
	})
}

// read returns the tenant and the tuple of a key that begins with first; of makes the tuple of the parts behind the tenant.
func read(b []byte, first string, of func(p [6]string) api.Tuple) (string, api.Tuple, bool) {
	var p [6]string
	parts, e := key.Decode(b)
	if e != api.OK || len(parts) != 2+len(p) || string(parts[0]) != first {
		return "", api.Tuple{}, false
	}
	for i := range p {
		p[i] = string(parts[2+i])
	}
	t := of(p)
	if !isTuple(t) {
		return "", api.Tuple{}, false
	}
	return string(parts[1]), t, true
}

func object(typ, id string) api.Object { return api.Object{Type: typ, ID: id} }

func subject(typ, id, rel string) api.Subject { return api.Subject{O: object(typ, id), Rel: rel} }
