package interp

import (
	"signalbox/api"
)

// frame is a procedure that has begun: its number, its locals.
type frame struct {
	proc   int
	locals []int
}

// process is what one process has still to do (the first thing last), its operands, its frames (the innermost last).
type process struct {
	todo   []deed
	values []int
	frames []frame
}

// newProcess makes a process that does the statements of a procedure.
func newProcess(proc int, locals []int, body []api.Stmt) *process {
	p := &process{frames: []frame{{proc, locals}}}
	p.put(statements(body), act{how: finish})
	return p
}

// put puts things to be done, in order, ahead of all others.
func (p *process) put(l ...deed) {
	for n := len(l) - 1; n >= 0; n-- {
		p.todo = append(p.todo, l[n])
	}
}

// next takes the next step: what is more than a step is parted till there is one.
func (p *process) next() step {
	for len(p.todo) > 0 {
		first := p.todo[len(p.todo)-1]
		p.todo = p.todo[:len(p.todo)-1]
		switch x := first.(type) {
		case step:
			return x
		default:
			p.put(x.parts()...)
		}
	}
	return act{how: finish}
}

// push puts a number on the operands.
func (p *process) push(x int) {
	p.values = append(p.values, x)
}

// pop takes the last operand; 0, if there is none.
func (p *process) pop() int {
	n := len(p.values)
	if n == 0 {
		return 0
	}
	x := p.values[n-1]
	p.values = p.values[:n-1]
	return x
}

// take takes n operands, in the order in which they were pushed, as the first ones of so many locals.
func (p *process) take(n, locals int) []int {
	l := make([]int, max(n, locals))
	for n--; n >= 0; n-- {
		l[n] = p.pop()
	}
	return l
}

// inner is the innermost frame.
func (p *process) inner() *frame {
	return &p.frames[len(p.frames)-1]
}
