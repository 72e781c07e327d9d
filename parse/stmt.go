package parse

import (
	"signalbox/api"
)

// stmts reads statements on that level.
func (r *reader) stmts(level int) []api.Stmt {
	l := []api.Stmt{r.stmt(level)}
	for r.pass(";") {
		l = append(l, r.stmt(level))
	}
	return l
}

// block passes over the word that stands ahead of statements, which are one level further, and reads them.
func (r *reader) block(word string, level int) []api.Stmt {
	at := r.token().At
	r.need(word)
	if level >= api.MaxDepth {
		r.fail(api.EDeep, at)
		return nil
	}
	return r.stmts(level + 1)
}

// stmt reads a statement.
func (r *reader) stmt(level int) api.Stmt {
	t := r.token()
	s := api.Stmt{At: t.At}
	switch {
	case t.Kind == api.KName:
		r.named(&s, level)
	case r.pass("skip"):
		s.Kind = api.SSkip
	case r.pass("if"):
		r.choice(&s, level)
	case r.pass("while"):
		s.Kind = api.SWhile
		s.E = []api.Expr{r.expr(level)}
		s.Body = r.block("do", level)
		r.need("od")
	case r.pass("cobegin"):
		r.fork(&s, level)
	case r.pass("P"):
		r.semaphore(&s, api.SP)
	case r.pass("V"):
		r.semaphore(&s, api.SV)
	case r.pass("region"):
		r.region(&s, level)
	case r.pass("request"):
		s.Kind, s.Items = api.SRequest, r.items()
	case r.pass("release"):
		s.Kind, s.Items = api.SRelease, r.items()
	case r.pass("read"):
		r.input(&s, level)
	case r.pass("write"):
		s.Kind, s.E = api.SWrite, []api.Expr{r.expr(level)}
	default:
		r.fail(api.ESyntax, t.At)
	}
	return s
}

// named reads a statement that begins with a name.
func (r *reader) named(s *api.Stmt, level int) {
	s.Name = r.name().Name
	switch {
	case r.pass(":="):
		s.Kind, s.E = api.SSet, []api.Expr{r.expr(level)}
	case r.is("["):
		s.Kind = api.SSetElem
		index := r.index(level)
		r.need(":=")
		s.E = []api.Expr{index, r.expr(level)}
	case r.is("("):
		s.Kind, s.E = api.SCall, r.exprs(level)
	default:
		r.fail(api.ESyntax, r.token().At)
	}
}

// index reads an index and the brackets around it: it is one level further.
func (r *reader) index(level int) api.Expr {
	at := r.token().At
	r.need("[")
	if level >= api.MaxDepth {
		r.fail(api.EDeep, at)
	}
	x := r.expr(level + 1)
	r.need("]")
	return x
}

// choice reads what stands behind `if`.
func (r *reader) choice(s *api.Stmt, level int) {
	s.Kind = api.SIf
	s.E = []api.Expr{r.expr(level)}
	s.Body = r.block("then", level)
	if r.is("else") {
		s.Else = r.block("else", level)
	}
	r.need("fi")
}

// fork reads what stands behind `cobegin`.
func (r *reader) fork(s *api.Stmt, level int) {
	s.Kind = api.SFork
	s.Branches = []api.Branch{r.branch(level)}
	for r.pass("//") {
		s.Branches = append(s.Branches, r.branch(level))
	}
	r.need("coend")
}

// branch reads a branch of a cobegin.
func (r *reader) branch(level int) api.Branch {
	name := r.name()
	b := api.Branch{At: name.At, Name: name.Name, Args: r.exprs(level)}
	if r.pass("claims") {
		b.Claims = r.items()
	}
	return b
}

// semaphore reads what stands behind P and V.
func (r *reader) semaphore(s *api.Stmt, kind int) {
	r.need("(")
	s.Kind, s.Name = kind, r.name().Name
	r.need(")")
}

// region reads what stands behind that word.
func (r *reader) region(s *api.Stmt, level int) {
	s.Kind, s.Name = api.SRegion, r.name().Name
	if r.pass("when") {
		s.E = []api.Expr{r.expr(level)}
	}
	s.Body = r.block("do", level)
	r.need("od")
}

// input reads what stands behind `read`.
func (r *reader) input(s *api.Stmt, level int) {
	s.Kind, s.Name = api.SRead, r.name().Name
	if r.is("[") {
		s.Kind, s.E = api.SGetElem, []api.Expr{r.index(level)}
	}
}
