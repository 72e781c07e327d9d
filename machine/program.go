package machine

import (
	"slices"
	"sync"

	"signalbox/api"
	"signalbox/verify"
)

// program is what a machine runs: what is told of it is looked for once.
type program struct {
	api.Program
	once  sync.Once
	code  api.Code
	reach int
}

// look checks the program, and goes through its variables.
func (p *program) look() {
	p.once.Do(func() {
		_, p.code = verify.Check(p.Program)
		if p.code != api.OK {
			return
		}
		for _, v := range p.Vars {
			p.reach = max(p.reach, v.Base+max(v.Size, 1))
		}
	})
}

// check is what is wrong with it, as verify tells it.
func (p *program) check() api.Code {
	p.look()
	return p.code
}

// words is how many words its variables have.
func (p *program) words() int {
	p.look()
	return p.reach
}

// copy makes all of it the program's own.
func (p *program) copy() {
	p.Code, p.Procs, p.Vars = slices.Clone(p.Code), slices.Clone(p.Procs), slices.Clone(p.Vars)
	p.Semas, p.Totals, p.Forks = slices.Clone(p.Semas), slices.Clone(p.Totals), slices.Clone(p.Forks)
	p.Vectors = slices.Clone(p.Vectors)
	for i, v := range p.Vectors {
		p.Vectors[i] = slices.Clone(v)
	}
}
