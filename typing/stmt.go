package typing

import (
	"signalbox/api"
)

// stmts goes through statements, from the left.
func (c *checker) stmts(l []api.Stmt) {
	for i := range l {
		c.stmt(&l[i])
	}
}

// stmt goes through a statement.
func (c *checker) stmt(s *api.Stmt) {
	switch s.Kind {
	case api.SSet:
		c.variable(s.Name, s.At, false)
		c.want(s.E, 0, number)
	case api.SSetElem:
		c.variable(s.Name, s.At, true)
		c.want(s.E, 0, number)
		c.want(s.E, 1, number)
	case api.SIf, api.SWhile:
		c.want(s.E, 0, truth)
		c.stmts(s.Body)
		c.stmts(s.Else)
	case api.SCall:
		c.call(s.Name, s.At, s.E)
	case api.SFork:
		c.branches(s.Branches)
	case api.SP, api.SV:
		c.need(s.Name, s.At, api.DSema)
	case api.SRegion:
		c.region(s)
	case api.SRequest, api.SRelease:
		c.items(s.Items)
	case api.SRead:
		c.variable(s.Name, s.At, false)
	case api.SGetElem:
		c.variable(s.Name, s.At, true)
		c.want(s.E, 0, number)
	case api.SWrite:
		c.want(s.E, 0, number)
	}
}

// call goes through a call: the name must be a procedure's, which takes so many numbers.
func (c *checker) call(name string, at int, args []api.Expr) {
	c.need(name, at, procedure)
	proc, _ := c.table.Proc(name)
	throw(len(args) == c.table.Params(proc), api.ECount, at)
	for i := range args {
		c.want(args, i, number)
	}
}

// branches goes through the branches of a cobegin.
func (c *checker) branches(l []api.Branch) {
	for i := range l {
		throw(i < api.MaxBranches, api.EMany, l[i].At)
		c.call(l[i].Name, l[i].At, l[i].Args)
		c.items(l[i].Claims)
	}
}

// region goes through a region: its variable may be touched within, and by its condition it alone.
func (c *checker) region(s *api.Stmt) {
	c.need(s.Name, s.At, api.DShared)
	for _, name := range c.within {
		throw(name != s.Name, api.EShared, s.At)
	}
	c.within = append(c.within, s.Name)
	if len(s.E) > 0 {
		c.waits = true
		c.want(s.E, 0, truth)
		c.waits = false
	}
	c.stmts(s.Body)
	c.within = c.within[:len(c.within)-1]
}

// items goes through so many units of some classes.
func (c *checker) items(l []api.Item) {
	seen := map[string]bool{}
	for i, x := range l {
		throw(i < api.MaxItems, api.EMany, x.At)
		c.need(x.Name, x.At, api.DClass)
		throw(!seen[x.Name], api.ETwice, x.At)
		throw(1 <= x.N && x.N <= api.MaxUnits, api.EUnits, x.At)
		seen[x.Name] = true
	}
}
