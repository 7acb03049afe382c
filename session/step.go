package session

import (
	"quickchange/api"
	"quickchange/cached"
	"quickchange/class"
	"quickchange/code"
	"quickchange/fast"
	"quickchange/run"
	"quickchange/value"
	"quickchange/wire"
)

// step does x to s, that is changed only as far as x is not refused.
func step(s *api.Session, x api.Step) api.Reply {
	switch x.Kind {
	case api.StepClass:
		return makeClass(s, x)
	case api.StepMethod:
		return install(s, x.Class, x.Method)
	case api.StepNew:
		return makeObject(s, x.Class)
	case api.StepPlain:
		return runPlain(s, x.Call)
	case api.StepCached:
		return runCached(s, x.Call)
	case api.StepFast:
		return runFast(s, x.Call)
	case api.StepSave:
		return save(s)
	case api.StepLoad:
		return load(s)
	}
	return refused(api.ErrKind)
}

func refused(err api.Errno) api.Reply { return api.Reply{Err: err} }

func makeClass(s *api.Session, x api.Step) api.Reply {
	w, number, err := class.Make(s.World, x.Name, x.Class, x.Slots)
	// Beside an error the world that comes is empty: the session keeps its own.
	if err != api.OK {
		return refused(err)
	}
	s.World = w
	return api.Reply{N: number}
}

func install(s *api.Session, c int, m api.Method) api.Reply {
	// Install takes whatever method it is handed: one that is wrong would have the world no longer right.
	if fault := code.Check(s.World, c, m); fault.Err != api.OK {
		return api.Reply{Err: fault.Err, N: fault.At}
	}
	w, err := class.Install(s.World, c, m)
	if err != api.OK {
		return refused(err)
	}
	s.World = w
	return api.Reply{}
}

func makeObject(s *api.Session, c int) api.Reply {
	if !hasObjects(s.World, c) {
		return refused(api.ErrNone)
	}
	heap, v, err := value.New(s.World.Heap, c, class.Slots(s.World, c))
	if err != api.OK {
		return refused(err)
	}
	s.World.Heap = heap
	return api.Reply{N: v.N, Value: v}
}

// hasObjects: whether c is a class whose values are objects.
func hasObjects(w api.World, c int) bool {
	return c == api.ClassObject || c >= api.ClassFirst && c < len(w.Classes)
}

func runPlain(s *api.Session, c api.Call) api.Reply {
	w, ran := run.Plain(s.World, c, api.MaxFuel)
	s.World = w
	return replyOf(ran)
}

func runCached(s *api.Session, c api.Call) api.Reply {
	out := cached.Run(s.World, c, api.MaxFuel, s.Cells, s.Tallies)
	s.World, s.Cells, s.Tallies = out.World, out.Cells, out.Tallies
	return replyOf(out.Ran)
}

// runFast makes its code anew for each run: what was made earlier might be old.
func runFast(s *api.Session, c api.Call) api.Reply {
	w, ran := fast.Run(s.World, c, api.MaxFuel, fast.All(s.World, s.Tallies))
	s.World = w
	return replyOf(ran)
}

// replyOf tells how many sends there were of runs that fail too.
func replyOf(ran api.Ran) api.Reply {
	return api.Reply{Err: ran.Err, N: ran.Sends, Value: ran.Value}
}

func save(s *api.Session) api.Reply {
	s.Saved = wire.Bytes(s.World)
	return api.Reply{N: len(s.Saved)}
}

func load(s *api.Session) api.Reply {
	if len(s.Saved) == 0 {
		return refused(api.ErrNone)
	}
	w, err := wire.Parse(s.Saved)
	if err != api.OK {
		return refused(err)
	}
	// An epoch that never was: what caches remember of other methods, ahead of this or behind what was saved, is old then.
	w.Epoch = max(w.Epoch, s.World.Epoch) + 1
	s.World = w
	return api.Reply{}
}
