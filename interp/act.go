package interp

import (
	"signalbox/api"
	"signalbox/arith"
)

// procedure tells a procedure's number and statements; none, if there is none of that name.
func (i *Interp) procedure(name string) (int, []api.Stmt) {
	proc, _ := i.table.Proc(name)
	if proc < 1 || proc > len(i.procs) {
		return 0, nil
	}
	return proc, i.procs[proc-1].Body
}

// units are those of items, 0 of other classes.
func (i *Interp) units(l []api.Item) []int {
	u := make([]int, len(i.table.Totals()))
	for _, x := range l {
		if n, ok := i.table.Global(x.Name); ok && n.Kind == api.DClass {
			u[n.Index] = x.N
		}
	}
	return u
}

// global is the number of what is declared by that name.
func (i *Interp) global(name string) int {
	n, _ := i.table.Global(name)
	return n.Index
}

// place is where the number of a local or variable lies; nil, if there is none.
func (i *Interp) place(p *process, name string) *int {
	f := p.inner()
	if n, ok := i.table.Local(f.proc, name); ok {
		return at(f.locals, n)
	}
	n, ok := i.table.Global(name)
	if !ok || n.Index >= len(i.cells) {
		return nil
	}
	return at(i.words, i.cells[n.Index].Base)
}

// element is where an element's number lies; nil, if there is none.
func (i *Interp) element(name string, index int) *int {
	n, ok := i.table.Global(name)
	if !ok || n.Index >= len(i.cells) || index < 0 || index >= i.cells[n.Index].Size {
		return nil
	}
	return at(i.words, i.cells[n.Index].Base+index)
}

// at is where the n-th of l lies; nil, if there is none.
func at(l []int, n int) *int {
	if n < 0 || n >= len(l) {
		return nil
	}
	return &l[n]
}

// value is an expression's value, when those of its Subs are the last operands.
func (i *Interp) value(p *process, x *api.Expr) (int, api.Code) {
	switch x.Kind {
	case api.XNum, api.XBool:
		return x.Num, api.OK
	case api.XName:
		return number(i.place(p, x.Name), api.ErrNone)
	case api.XElem:
		return number(i.element(x.Name, p.pop()), api.TIndex)
	case api.XUn:
		return arith.Do(x.Op, p.pop(), 0)
	case api.XBin:
		right := p.pop()
		return arith.Do(x.Op, p.pop(), right)
	}
	return 0, api.ErrArg
}

// number is the number that lies there; c, if there is none.
func number(from *int, c api.Code) (int, api.Code) {
	if from == nil {
		return 0, c
	}
	return *from, api.OK
}

// put sets the number that lies there; c, if there is none.
func put(to *int, x int, c api.Code) ([]api.Event, api.Code) {
	if to == nil {
		return nil, c
	}
	*to = x
	return nil, api.OK
}

func skip(*Interp, int, *process, *api.Stmt) ([]api.Event, api.Code) {
	return nil, api.OK
}

func set(i *Interp, _ int, p *process, s *api.Stmt) ([]api.Event, api.Code) {
	return put(i.place(p, s.Name), p.pop(), api.ErrNone)
}

func setElem(i *Interp, _ int, p *process, s *api.Stmt) ([]api.Event, api.Code) {
	x := p.pop()
	return put(i.element(s.Name, p.pop()), x, api.TIndex)
}

// choose goes by the condition. Behind the Body of an if that has an Else, one more step passes over that.
func choose(_ *Interp, _ int, p *process, s *api.Stmt) ([]api.Event, api.Code) {
	holds, of := p.pop() != 0, statement{s}
	switch {
	case s.Kind == api.SWhile && holds:
		p.put(statements(s.Body), of.act(back))
	case s.Kind == api.SIf && holds && len(s.Else) > 0:
		p.put(statements(s.Body), of.act(skip))
	case s.Kind == api.SIf && holds:
		p.put(statements(s.Body))
	case s.Kind == api.SIf:
		p.put(statements(s.Else))
	}
	return nil, api.OK
}

// back goes back to the condition of a while.
func back(_ *Interp, _ int, p *process, s *api.Stmt) ([]api.Event, api.Code) {
	p.put(statement{s})
	return nil, api.OK
}

// begin begins a procedure.
func begin(i *Interp, _ int, p *process, s *api.Stmt) ([]api.Event, api.Code) {
	proc, body := i.procedure(s.Name)
	p.frames = append(p.frames, frame{proc, p.take(len(s.E), i.table.Locals(proc))})
	p.put(statements(body), statement{s}.act(end))
	return nil, api.OK
}

// end ends a procedure.
func end(_ *Interp, _ int, p *process, _ *api.Stmt) ([]api.Event, api.Code) {
	p.frames = p.frames[:len(p.frames)-1]
	return nil, api.OK
}

// finish ends the process.
func finish(i *Interp, pid int, _ *process, _ *api.Stmt) ([]api.Event, api.Code) {
	events, _ := i.kernel.End(pid, api.OK)
	return events, api.OK
}

func join(i *Interp, pid int, _ *process, _ *api.Stmt) ([]api.Event, api.Code) {
	_, events, c := i.kernel.Join(pid)
	return events, c
}

func semP(i *Interp, pid int, _ *process, s *api.Stmt) ([]api.Event, api.Code) {
	_, events, c := i.kernel.P(pid, i.global(s.Name))
	return events, c
}

func semV(i *Interp, pid int, _ *process, s *api.Stmt) ([]api.Event, api.Code) {
	return nil, i.kernel.V(pid, i.global(s.Name))
}

func enter(i *Interp, pid int, _ *process, s *api.Stmt) ([]api.Event, api.Code) {
	v, _ := i.table.Region(s.Name)
	_, events, c := i.kernel.Enter(pid, v)
	return events, c
}

// await: where the condition does not hold, it is looked at anew, when the process is in the region again.
func await(i *Interp, pid int, p *process, s *api.Stmt) ([]api.Event, api.Code) {
	v, _ := i.table.Region(s.Name)
	holds := p.pop() != 0
	_, events, c := i.kernel.Await(pid, v, holds)
	if !holds {
		p.put(expressions(s.E), statement{s}.act(await))
	}
	return events, c
}

func leave(i *Interp, pid int, _ *process, s *api.Stmt) ([]api.Event, api.Code) {
	v, _ := i.table.Region(s.Name)
	return nil, i.kernel.Leave(pid, v)
}

func request(i *Interp, pid int, _ *process, s *api.Stmt) ([]api.Event, api.Code) {
	_, events, c := i.kernel.Request(pid, i.units(s.Items))
	return events, c
}

func release(i *Interp, pid int, _ *process, s *api.Stmt) ([]api.Event, api.Code) {
	return i.kernel.Release(pid, i.units(s.Items))
}

func read(i *Interp, _ int, p *process, _ *api.Stmt) ([]api.Event, api.Code) {
	if len(i.input) == 0 {
		return nil, api.TInput
	}
	p.push(i.input[0])
	i.input = i.input[1:]
	return nil, api.OK
}

func write(_ *Interp, pid int, p *process, _ *api.Stmt) ([]api.Event, api.Code) {
	return []api.Event{{Kind: api.EvWrite, Pid: pid, A: p.pop()}}, api.OK
}
