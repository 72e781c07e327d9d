package interp

import (
	"signalbox/api"
)

// deed is something to be done.
type deed interface {
	// parts are what it is made of, in order; none of a step.
	parts() []deed
}

// step is a deed that is done at once: what is seen, and a code.
type step interface {
	deed
	do(i *Interp, pid int, p *process) ([]api.Event, api.Code)
}

// statements are done one behind the other.
type statements []api.Stmt

func (l statements) parts() []deed {
	var all []deed
	for n := range l {
		all = append(all, statement{&l[n]})
	}
	return all
}

// expressions are done from the left.
type expressions []api.Expr

func (l expressions) parts() []deed {
	var all []deed
	for n := range l {
		all = append(all, expressions(l[n].Sub), value{&l[n]})
	}
	return all
}

// statement is one statement.
type statement struct{ *api.Stmt }

func (s statement) parts() []deed {
	first := expressions(s.E)
	switch s.Kind {
	case api.SSkip:
		return []deed{s.act(skip)}
	case api.SSet:
		return []deed{first, s.act(set)}
	case api.SSetElem:
		return []deed{first, s.act(setElem)}
	case api.SIf, api.SWhile:
		return []deed{first, s.act(choose)}
	case api.SCall:
		return []deed{first, s.act(begin)}
	case api.SFork:
		return s.forks()
	case api.SP:
		return []deed{s.act(semP)}
	case api.SV:
		return []deed{s.act(semV)}
	case api.SRegion:
		return s.region()
	case api.SRequest:
		return []deed{s.act(request)}
	case api.SRelease:
		return []deed{s.act(release)}
	case api.SRead:
		return []deed{s.act(read), s.act(set)}
	case api.SGetElem:
		return []deed{first, s.act(read), s.act(setElem)}
	case api.SWrite:
		return []deed{first, s.act(write)}
	}
	return nil
}

// forks: each branch's arguments, and its fork; then one joins.
func (s statement) forks() []deed {
	var all []deed
	for n := range s.Branches {
		b := &s.Branches[n]
		all = append(all, expressions(b.Args), spawn{b})
	}
	return append(all, s.act(join))
}

// region: one enters; of a condition its steps, and one awaits; Body; one leaves.
func (s statement) region() []deed {
	all := []deed{s.act(enter)}
	if len(s.E) > 0 {
		all = append(all, expressions(s.E), s.act(await))
	}
	return append(all, statements(s.Body), s.act(leave))
}

// act is a step of the statement that is done so.
func (s statement) act(how func(i *Interp, pid int, p *process, s *api.Stmt) ([]api.Event, api.Code)) act {
	return act{how, s.Stmt}
}

// act is one step of a statement.
type act struct {
	how  func(i *Interp, pid int, p *process, s *api.Stmt) ([]api.Event, api.Code)
	stmt *api.Stmt
}

func (act) parts() []deed {
	return nil
}

func (a act) do(i *Interp, pid int, p *process) ([]api.Event, api.Code) {
	return a.how(i, pid, p, a.stmt)
}

// value is the step that makes an expression's value of those of its Subs.
type value struct{ *api.Expr }

func (value) parts() []deed {
	return nil
}

func (v value) do(i *Interp, _ int, p *process) ([]api.Event, api.Code) {
	x, c := i.value(p, v.Expr)
	if c == api.OK {
		p.push(x)
	}
	return nil, c
}

// spawn is the step that forks a branch.
type spawn struct{ *api.Branch }

func (spawn) parts() []deed {
	return nil
}

func (b spawn) do(i *Interp, pid int, p *process) ([]api.Event, api.Code) {
	proc, body := i.procedure(b.Name)
	child, events, c := i.kernel.Fork(pid, i.units(b.Claims))
	if c != api.OK {
		return nil, c
	}
	locals := p.take(len(b.Args), i.table.Locals(proc))
	if i.kernel.Procs().State(child) == api.PReady {
		i.live[child] = newProcess(proc, locals, body)
	}
	return events, api.OK
}
