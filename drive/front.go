package drive

import (
	"sync"

	"signalbox/api"
	"signalbox/parse"
	"signalbox/scope"
	"signalbox/typing"
)

// front is the front end: what a source is and what its names mean, looked for once.
type front struct {
	src    []byte
	once   sync.Once
	source api.Source
	table  *scope.Table
	fault  api.Fault // the first one
}

// newFront is the front end of a source.
func newFront(src []byte) *front {
	return &front{src: src}
}

// look goes through the stages, till one of them tells a fault.
func (f *front) look() api.Fault {
	f.once.Do(func() {
		for _, stage := range [...]func() api.Fault{f.parse, f.build, f.check} {
			if f.fault = stage(); f.fault.Code != api.OK {
				return
			}
		}
	})
	return f.fault
}

func (f *front) parse() (fault api.Fault) {
	f.source, fault = parse.Parse(f.src)
	return fault
}

func (f *front) build() (fault api.Fault) {
	f.table, fault = scope.Build(f.source)
	return fault
}

func (f *front) check() api.Fault {
	return typing.Check(f.source, f.table)
}
