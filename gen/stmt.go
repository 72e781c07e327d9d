package gen

import (
	"signalbox/api"
)

// stmts writes statements; behind the last one come those of behind, the last one first.
func (g *writer) stmts(l []api.Stmt, behind ...func()) {
	for _, fill := range behind {
		defer fill()
	}
	for i := range l {
		g.stmt(&l[i])
	}
}

// stmt writes a statement.
func (g *writer) stmt(s *api.Stmt) {
	switch s.Kind {
	case api.SSkip:
		g.put(api.Nop)
	case api.SSet:
		g.exprs(s.E)
		g.name(s.Name, api.SetLocal, api.Store)
	case api.SSetElem:
		g.exprs(s.E)
		g.put(api.StoreAt, g.global(s.Name))
	case api.SIf:
		g.choice(s)
	case api.SWhile:
		g.loop(s)
	case api.SCall:
		p, _ := g.table.Proc(s.Name)
		g.exprs(s.E)
		g.put(api.Call, p)
	case api.SFork:
		for i := range s.Branches {
			g.branch(&s.Branches[i])
		}
		g.put(api.Join)
	case api.SP:
		g.put(api.P, g.global(s.Name))
	case api.SV:
		g.put(api.V, g.global(s.Name))
	case api.SRegion:
		g.region(s)
	case api.SRequest:
		g.put(api.Request, g.vector(s.Items))
	case api.SRelease:
		g.put(api.Release, g.vector(s.Items))
	case api.SRead:
		g.put(api.Read)
		g.name(s.Name, api.SetLocal, api.Store)
	case api.SGetElem:
		g.exprs(s.E)
		g.put(api.Read)
		g.put(api.StoreAt, g.global(s.Name))
	case api.SWrite:
		g.exprs(s.E)
		g.put(api.Write)
	}
}

// choice writes an if: where its condition does not hold, the process goes on at Else, or behind all.
func (g *writer) choice(s *api.Stmt) {
	g.exprs(s.E)
	otherwise := g.hole(api.JumpZero)
	if len(s.Else) == 0 {
		g.stmts(s.Body, otherwise)
		return
	}
	var end func()
	g.stmts(s.Body, otherwise, func() { end = g.hole(api.Jump) })
	g.stmts(s.Else, end)
}

// loop writes a while: behind its body the process goes back to its condition.
func (g *writer) loop(s *api.Stmt) {
	begin := g.here()
	g.exprs(s.E)
	end := g.hole(api.JumpZero)
	g.stmts(s.Body, end, func() { g.put(api.Jump, begin) })
}

// branch writes a branch of a cobegin: its vector and its fork are of the same order as its instruction.
func (g *writer) branch(b *api.Branch) {
	g.exprs(b.Args)
	p, _ := g.table.Proc(b.Name)
	g.program.Forks = append(g.program.Forks, api.Spawn{Proc: p, Claim: g.vector(b.Claims)})
	g.put(api.Fork, len(g.program.Forks)-1)
}

// region writes a region: who waits for its condition goes back to where that begins.
func (g *writer) region(s *api.Stmt) {
	r, _ := g.table.Region(s.Name)
	g.put(api.Enter, r)
	if len(s.E) > 0 {
		begin := g.here()
		g.exprs(s.E)
		g.put(api.Await, r, begin)
	}
	g.stmts(s.Body)
	g.put(api.Leave, r)
}
