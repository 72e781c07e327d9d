package pretty

import (
	"strconv"

	"signalbox/api"
)

// source writes all.
func (w *writer) source(s *api.Source) {
	w.line("program ", s.Name, ";")
	for _, d := range s.Decls {
		w.decl(d)
	}
	for i := range s.Procs {
		w.procedure(&s.Procs[i])
	}
	if len(s.Claims) > 0 {
		w.items("claims", s.Claims)
		w.put(";\n")
	}
	w.line("begin")
	w.block(s.Body)
	w.line("end.")
}

// decl writes a declaration.
func (w *writer) decl(d api.Decl) {
	switch d.Kind {
	case api.DClass:
		w.line("resource ", d.Name, " ", strconv.Itoa(d.N), ";")
	case api.DSema:
		w.line("semaphore ", d.Name, " ", strconv.Itoa(d.N), ";")
	case api.DShared:
		w.line("shared ", d.Name, size(d.N), ";")
	case api.DVar:
		w.line("var ", d.Name, size(d.N), ";")
	}
}

// size is how many elements an array has, between brackets; nothing of what is no array.
func size(n int) string {
	if n == 0 {
		return ""
	}
	return "[" + strconv.Itoa(n) + "]"
}

// procedure writes a procedure.
func (w *writer) procedure(p *api.Proc) {
	w.put("procedure ", p.Name, "(")
	for i, x := range p.Params {
		if i > 0 {
			w.put(", ")
		}
		w.put(x.Name)
	}
	w.put(");\n")
	w.depth++
	for _, x := range p.Vars {
		w.line("var ", x.Name, ";")
	}
	w.depth--
	w.line("begin")
	w.block(p.Body)
	w.line("end;")
}

// block writes statements one block further in.
func (w *writer) block(l []api.Stmt) {
	w.depth++
	for i := range l {
		end := ";"
		if i == len(l)-1 {
			end = ""
		}
		w.stmt(&l[i], end)
	}
	w.depth--
}

// stmt writes a statement, and end behind its last line.
func (w *writer) stmt(s *api.Stmt, end string) {
	w.begin()
	switch s.Kind {
	case api.SIf:
		w.head("if ", s.E, " then")
		w.block(s.Body)
		if len(s.Else) > 0 {
			w.line("else")
			w.block(s.Else)
		}
		w.line("fi", end)
	case api.SWhile:
		w.head("while ", s.E, " do")
		w.block(s.Body)
		w.line("od", end)
	case api.SRegion:
		w.put("region ", s.Name)
		if len(s.E) > 0 {
			w.put(" when ")
		}
		w.head("", s.E, " do")
		w.block(s.Body)
		w.line("od", end)
	case api.SFork:
		w.put("cobegin\n")
		w.branches(s.Branches)
		w.line("coend", end)
	default:
		w.simple(s)
		w.put(end, "\n")
	}
}

// head writes the rest of a line: an expression, if there is one, between two texts.
func (w *writer) head(ahead string, l []api.Expr, behind string) {
	w.put(ahead)
	w.operand(l, 0, 0)
	w.put(behind, "\n")
}

// branches writes the branches of a cobegin, a line each.
func (w *writer) branches(l []api.Branch) {
	w.depth++
	for i := range l {
		w.begin()
		w.put(l[i].Name)
		w.exprs(l[i].Args)
		w.items(" claims", l[i].Claims)
		if i < len(l)-1 {
			w.put(" //")
		}
		w.put("\n")
	}
	w.depth--
}

// simple writes a statement that has no lines of its own.
func (w *writer) simple(s *api.Stmt) {
	switch s.Kind {
	case api.SSkip:
		w.put("skip")
	case api.SSet:
		w.put(s.Name, " := ")
		w.operand(s.E, 0, 0)
	case api.SSetElem:
		w.put(s.Name)
		w.index(s.E)
		w.put(" := ")
		w.operand(s.E, 1, 0)
	case api.SCall:
		w.put(s.Name)
		w.exprs(s.E)
	case api.SP:
		w.put("P(", s.Name, ")")
	case api.SV:
		w.put("V(", s.Name, ")")
	case api.SRequest:
		w.items("request", s.Items)
	case api.SRelease:
		w.items("release", s.Items)
	case api.SRead:
		w.put("read ", s.Name)
	case api.SGetElem:
		w.put("read ", s.Name)
		w.index(s.E)
	case api.SWrite:
		w.put("write ")
		w.operand(s.E, 0, 0)
	}
}
