package machine

import (
	"signalbox/api"
	"signalbox/units"
)

// outcome is what an instruction leads to: goes, trap or limit.
type outcome interface {
	// seen are the events that come of it at once.
	seen(pid int) []api.Event
}

// goes: nothing is wrong; what the kernel told.
type goes struct{ events []api.Event }

// trap ends the process.
type trap api.Code

// limit ends the run.
type limit api.Code

func (g goes) seen(int) []api.Event {
	return g.events
}

// A trap is seen by the kernel's End alone.
func (t trap) seen(int) []api.Event {
	return nil
}

func (l limit) seen(pid int) []api.Event {
	return []api.Event{{Kind: api.EvTrap, Pid: pid, A: int(l)}}
}

// of is the outcome of a code, beside which events are told.
func of(c api.Code, events ...api.Event) outcome {
	switch c {
	case api.OK:
		return goes{events}
	case api.TStack, api.TProcs, api.TStore:
		return limit(c)
	}
	return trap(c)
}

// settle does what the outcome of pid's instruction asks for, and ends the run, if it is over.
func (m *Machine) settle(pid int, o outcome) {
	m.see(o.seen(pid)...)
	switch x := o.(type) {
	case limit:
		m.stop(api.StLimit)
		return
	case trap:
		events, _ := m.kernel.End(pid, api.Code(x))
		m.see(events...)
	}
	m.leave(pid)
	switch {
	case m.kernel.Procs().Live() == 0:
		m.stop(api.StDone)
	case len(m.Ready()) == 0:
		m.stop(api.StDead)
	}
}

// see puts events behind the trace.
func (m *Machine) see(events ...api.Event) {
	for _, e := range events {
		e.At = m.steps
		m.trace = append(m.trace, e)
	}
}

// stop ends the run.
func (m *Machine) stop(status int) {
	m.see(api.Event{Kind: api.EvStop, A: status})
	m.status = status
}

// leave takes its segment from pid, if it is not live any more.
func (m *Machine) leave(pid int) {
	if state := m.kernel.Procs().State(pid); state == api.PReady || state == api.PBlocked {
		return
	}
	if r := m.tasks[pid]; r != nil {
		m.segs.Give(r.at)
		delete(m.tasks, pid)
	}
}

// do does one instruction of pid.
func (m *Machine) do(pid int) outcome {
	r := m.tasks[pid]
	if r == nil {
		return trap(api.ErrNone)
	}
	done, c := r.Do(m.program.Program, m.store)
	if done || c != api.OK {
		return of(c)
	}
	return m.ask(pid, r, m.program.Code[r.At()])
}

// ask does an instruction that is more than the process's own words.
func (m *Machine) ask(pid int, r *room, i api.Instr) outcome {
	r.Goto(r.At() + 1)
	var events []api.Event
	var c api.Code
	switch i.Op {
	case api.Ret:
		events, _ = m.kernel.End(pid, api.OK)
	case api.Join:
		_, events, c = m.kernel.Join(pid)
	case api.P:
		_, events, c = m.kernel.P(pid, i.A)
	case api.V:
		c = m.kernel.V(pid, i.A)
	case api.Enter:
		_, events, c = m.kernel.Enter(pid, i.A)
	case api.Await:
		events, c = m.await(pid, r, i)
	case api.Leave:
		c = m.kernel.Leave(pid, i.A)
	case api.Request:
		_, events, c = m.kernel.Request(pid, m.program.Vectors[i.A])
	case api.Release:
		events, c = m.kernel.Release(pid, m.program.Vectors[i.A])
	case api.Fork:
		events, c = m.fork(pid, r, m.program.Forks[i.A])
	case api.Read:
		c = m.read(r)
	case api.Write:
		events, c = write(pid, r)
	}
	return of(c, events...)
}

// await pops whether the condition holds; if it does not, the process stands where it begins.
func (m *Machine) await(pid int, r *room, i api.Instr) ([]api.Event, api.Code) {
	x, c := r.Stack().Pop()
	if c != api.OK {
		return nil, c
	}
	_, events, c := m.kernel.Await(pid, i.A, x != 0)
	if x == 0 {
		r.Goto(i.B)
	}
	return events, c
}

// fork makes a child, with a segment of its own, unless it is trapped at once.
func (m *Machine) fork(pid int, r *room, f api.Spawn) ([]api.Event, api.Code) {
	e := m.program.Procs[f.Proc]
	switch {
	case !units.None(m.kernel.Alloc().Held(pid)):
		return nil, api.TFork
	case m.kernel.Procs().Live() >= m.limits.Procs:
		return nil, api.TProcs
	case m.segs.Free() == 0:
		return nil, api.TStore
	case e.Locals+2 > m.limits.Stack:
		return nil, api.TStack
	}
	child, events, c := m.kernel.Fork(pid, m.program.Vectors[f.Claim])
	if c != api.OK {
		return nil, c
	}
	locals := make([]int, e.Params)
	for i := range locals {
		locals[e.Params-1-i], _ = r.Stack().Pop()
	}
	if m.kernel.Procs().State(child) == api.PReady {
		c = m.settleIn(child, e.At, e, locals...)
	}
	return events, c
}

// read pushes the next number of input.
func (m *Machine) read(r *room) api.Code {
	if len(m.input) == 0 {
		return api.TInput
	}
	c := r.Stack().Push(m.input[0])
	if c == api.OK {
		m.input = m.input[1:]
	}
	return c
}

// write pops a number, which is seen.
func write(pid int, r *room) ([]api.Event, api.Code) {
	x, c := r.Stack().Pop()
	if c != api.OK {
		return nil, c
	}
	return []api.Event{{Kind: api.EvWrite, Pid: pid, A: x}}, api.OK
}
