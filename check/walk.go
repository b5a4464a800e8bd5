package check

import "pantograph/api"

// Has tells whether a field stands in it.
func Has(e api.Expr, fields []string) bool {
	return walk(e, setOf(fields)).has
}

// Linear tells whether fields stand in no two factors, and in no divisor.
func Linear(e api.Expr, fields []string) bool {
	return walk(e, setOf(fields)).linear
}

// sight is what a walk through a tree tells of it.
type sight struct {
	has    bool // a field stands in it
	linear bool
}

// walk tells both at once: were each product to ask its Kids anew, a deep tree
// would be gone through once for each of its products.
func walk(e api.Expr, fields set) sight {
	s := sight{has: e.Kind == api.ExprName && fields.has(e.Name), linear: true}
	for i, kid := range e.Kids {
		k := walk(kid, fields)
		crossed := e.Kind == api.ExprMul && s.has && k.has
		divides := e.Kind == api.ExprDiv && i > 0 && k.has
		s.linear = s.linear && k.linear && !crossed && !divides
		s.has = s.has || k.has
	}
	return s
}

// set is some names.
type set map[string]struct{}

func setOf(names []string) set {
	s := set{}
	for _, name := range names {
		s.add(name)
	}
	return s
}

func (s set) add(name string) { s[name] = struct{}{} }

func (s set) has(name string) bool {
	_, known := s[name]
	return known
}
