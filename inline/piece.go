package inline

import "quickchange/api"

// place is where a piece keeps what its method works with: the temporaries of self, of the first argument, and of the
// first one of its own; and the numbers of its method's first instruction, and of what is behind the piece.
type place struct{ self, args, temps, first, behind int }

// placeOf is the place of leaf's piece behind what fast has already.
func placeOf(fast api.Fast, leaf api.Method) place {
	self := fast.Temps
	args := self + 1
	first := len(fast.Code) + head + leaf.Args + 2*leaf.Temps
	return place{self: self, args: args, temps: args + leaf.Args, first: first, behind: first + len(leaf.Code)}
}

// piece is the code that does what leaf would do if it were sent.
func piece(leaf api.Method, guard api.Instr, p place) []api.Instr {
	// The guard is first: it must leave the stack as the send would find it, if another one comes.
	code := []api.Instr{guard, {Op: api.OpCount}}
	for n := leaf.Args - 1; n >= 0; n-- {
		code = append(code, api.Instr{Op: api.OpSet, A: p.args + n})
	}
	code = append(code, api.Instr{Op: api.OpSet, A: p.self})
	// The same piece may run again in one call: its temporaries must be nil each time.
	for n := range leaf.Temps {
		code = append(code, api.Instr{Op: api.OpNil}, api.Instr{Op: api.OpSet, A: p.temps + n})
	}
	for _, x := range leaf.Code {
		code = append(code, p.standIn(x))
	}
	return code
}

// standIn is what does in a piece what x does in a call of its own.
func (p place) standIn(x api.Instr) api.Instr {
	switch x.Op {
	case api.OpSelf:
		return api.Instr{Op: api.OpTemp, A: p.self}
	case api.OpArg:
		return api.Instr{Op: api.OpTemp, A: p.args + x.A}
	case api.OpTemp, api.OpSet:
		return api.Instr{Op: x.Op, A: p.temps + x.A}
	case api.OpSlot:
		return api.Instr{Op: api.OpOf, A: p.self, B: x.A}
	case api.OpPut:
		return api.Instr{Op: api.OpTo, A: p.self, B: x.A}
	case api.OpJump, api.OpElse:
		return api.Instr{Op: x.Op, A: p.first + x.A}
	case api.OpBack:
		return api.Instr{Op: api.OpJump, A: p.behind}
	}
	return x
}
