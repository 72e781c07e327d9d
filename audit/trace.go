package audit

import (
	"signalbox/api"
)

// past is what a process's last event asks of its next one.
type past struct {
	over  bool // there must be none
	waits bool // it must be a grant of sum units
	sum   int
}

// Trace says whether events come in an order in which they may.
func Trace(l []api.Event) bool {
	procs := map[int]past{}
	at := 0
	for i, e := range l {
		if e.At < at {
			return false
		}
		at = e.At
		if e.Kind == api.EvStop {
			return i == len(l)-1
		}
		if !procs[e.Pid].may(e) {
			return false
		}
		procs[e.Pid] = past{
			over:  e.Kind == api.EvEnd || e.Kind == api.EvTrap,
			waits: e.Kind == api.EvBlock && e.A == api.WUnits,
			sum:   e.B,
		}
	}
	return true
}

// may says whether e may come next.
func (p past) may(e api.Event) bool {
	switch {
	case p.over:
		return false
	case p.waits:
		return e.Kind == api.EvGrant && e.A == p.sum
	}
	return true
}
