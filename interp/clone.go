package interp

import (
	"slices"

	"signalbox/api"
)

// cloneProcs are procedures that have nothing in common with l.
func cloneProcs(l []api.Proc) []api.Proc {
	l = slices.Clone(l)
	for i := range l {
		l[i].Body = cloneStmts(l[i].Body)
	}
	return l
}

// cloneStmts are statements that have nothing in common with l.
func cloneStmts(l []api.Stmt) []api.Stmt {
	l = slices.Clone(l)
	for i := range l {
		l[i].E, l[i].Items = cloneExprs(l[i].E), slices.Clone(l[i].Items)
		l[i].Body, l[i].Else = cloneStmts(l[i].Body), cloneStmts(l[i].Else)
		l[i].Branches = slices.Clone(l[i].Branches)
		for j := range l[i].Branches {
			b := &l[i].Branches[j]
			b.Args, b.Claims = cloneExprs(b.Args), slices.Clone(b.Claims)
		}
	}
	return l
}

// cloneExprs are expressions that have nothing in common with l.
func cloneExprs(l []api.Expr) []api.Expr {
	l = slices.Clone(l)
	for i := range l {
		l[i].Sub = cloneExprs(l[i].Sub)
	}
	return l
}
