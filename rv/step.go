package rv

import (
	"marline/api"
	"marline/enc"
	"marline/page"
)

// How many bytes an instruction has, and what is loaded and stored.
const (
	opBytes   = 4
	wideBytes = 8
)

// The registers of a call.
const (
	callReg  = 17
	valueReg = 10
)

// noByte is what is read where nothing is left.
const noByte = 256

// step is the machine after one step.
func step(m api.Mach) api.Mach {
	if m.State != api.MRuns {
		return m
	}
	m.Steps++
	if o, there := fetch(m); there {
		if k, done := do(m, o); done {
			return k
		}
	}
	m.State = api.MTrap
	return m
}

// fetch is the instruction at Pc, and whether there is one.
func fetch(m api.Mach) (api.Op, bool) {
	if m.Pc%opBytes != 0 {
		return api.Op{}, false
	}
	w, e := page.Load(m.M, m.Pc, opBytes, api.PX)
	if e != api.OK {
		return api.Op{}, false
	}
	o, e := enc.Take(uint32(w))
	return o, e == api.OK
}

// do is the machine after an instruction, and whether that could be done; if not, the machine is of no use.
func do(m api.Mach, o api.Op) (api.Mach, bool) {
	m.X[0] = 0 // whatever was handed in: the register 0 is always 0
	a, b := m.X[o.A], m.X[o.B]
	at := a + uint64(o.Imm)
	give := func(v uint64, e api.Errno) bool {
		if o.Rd != 0 {
			m.X[o.Rd] = v
		}
		return e == api.OK
	}
	keep := func(k []api.Page, e api.Errno) bool {
		m.M = k
		return e == api.OK
	}
	var done bool
	switch o.Kind {
	case api.KLd:
		done = give(page.Load(m.M, at, wideBytes, api.PR))
	case api.KLbu:
		done = give(page.Load(m.M, at, 1, api.PR))
	case api.KSd:
		done = keep(page.Store(m.M, at, wideBytes, b))
	case api.KSb:
		done = keep(page.Store(m.M, at, 1, b))
	case api.KEcall:
		m, done = call(m)
	default: // branches too: they have no Rd, so that nothing is given
		done = give(Does(o, a, b, m.Pc), api.OK)
	}
	if m.State == api.MRuns { // who ended stays where it is
		m.Pc = next(o, a, b, m.Pc)
	}
	return m, done
}

// call is the machine after a call, but for its Pc, and whether there is such a call.
func call(m api.Mach) (api.Mach, bool) {
	switch m.X[callReg] {
	case api.CRead:
		m.X[valueReg] = noByte
		if m.In != "" {
			m.X[valueReg] = uint64(m.In[0])
			m.In = m.In[1:]
		}
	case api.CWrite:
		m.Out += string([]byte{byte(m.X[valueReg])})
	case api.CExit:
		m.State = api.MEnds
		m.Code = m.X[valueReg]
	default:
		return m, false
	}
	return m, true
}

// next is where the machine goes on after an instruction at pc.
func next(o api.Op, a, b, pc uint64) uint64 {
	imm := uint64(o.Imm)
	switch o.Kind {
	case api.KBeq, api.KBne, api.KBltu, api.KBgeu:
		if !Goes(o, a, b) {
			break
		}
		fallthrough
	case api.KJal:
		return pc + imm
	case api.KJalr:
		return (a + imm) &^ 1
	}
	return pc + opBytes
}
