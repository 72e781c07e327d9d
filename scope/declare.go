package scope

import (
	"signalbox/api"
)

// thing is what is declared.
type thing interface {
	// full says whether there are as many of them as may be.
	full(t *Table) bool
	// may says whether its number may be.
	may() bool
	// enter puts it behind the others of its kind: its number among these, and how many elements it has.
	enter(t *Table) (index, size int)
}

// of is what d declares; nil, if it is nothing.
func of(d api.Decl) thing {
	switch d.Kind {
	case api.DClass:
		return class(d)
	case api.DSema:
		return sema(d)
	case api.DShared:
		return shared{variable(d)}
	case api.DVar:
		return variable(d)
	}
	return nil
}

// declare puts what d declares behind the others.
func (t *Table) declare(d api.Decl) api.Code {
	x := of(d)
	switch {
	case x == nil:
		return api.OK
	case t.taken(d.Name):
		return api.ETwice
	case x.full(t):
		return api.EMany
	case !x.may():
		return api.EUnits
	}
	index, size := x.enter(t)
	t.globals[d.Name] = Name{Kind: d.Kind, Index: index, Size: size}
	return api.OK
}

// class is a class of units.
type class api.Decl

func (c class) full(t *Table) bool {
	return len(t.totals) >= api.MaxClasses
}

func (c class) may() bool {
	return 1 <= c.N && c.N <= api.MaxUnits
}

func (c class) enter(t *Table) (int, int) {
	t.totals = append(t.totals, c.N)
	return len(t.totals) - 1, 0
}

// sema is a semaphore.
type sema api.Decl

func (s sema) full(t *Table) bool {
	return len(t.semas) >= api.MaxSemas
}

func (s sema) may() bool {
	return 0 <= s.N && s.N <= api.MaxUnits
}

func (s sema) enter(t *Table) (int, int) {
	t.semas = append(t.semas, s.N)
	return len(t.semas) - 1, 0
}

// variable is a variable, shared or not.
type variable api.Decl

func (v variable) full(t *Table) bool {
	return len(t.cells) >= api.MaxVars
}

// How many elements there may be, the parser has looked at.
func (v variable) may() bool {
	return true
}

func (v variable) enter(t *Table) (int, int) {
	base := 0
	if n := len(t.cells); n > 0 {
		base = t.cells[n-1].Base + max(t.cells[n-1].Size, 1)
	}
	t.cells = append(t.cells, api.Cell{Base: base, Size: v.N})
	return len(t.cells) - 1, v.N
}

// shared is a variable that has a region.
type shared struct{ variable }

func (s shared) enter(t *Table) (int, int) {
	t.regions[s.Name] = len(t.regions)
	return s.variable.enter(t)
}
