package wire

import (
	"strconv"

	"quickchange/api"
)

// words is a text, word behind word.
type words struct{ text []byte }

func (t *words) word(s string) {
	t.text = append(t.text, s...)
	t.text = append(t.text, ' ')
}

func (t *words) number(n int) {
	t.text = strconv.AppendInt(t.text, int64(n), 10)
	t.text = append(t.text, ' ')
}

// writer writes worlds, and what they are made of, as words.
type writer struct{ words }

func (w *writer) world(x api.World) {
	w.number(x.Epoch)
	w.number(len(x.Classes))
	for _, c := range x.Classes {
		w.class(c)
	}
	w.number(len(x.Heap))
	for _, o := range x.Heap {
		w.object(o)
	}
}

func (w *writer) class(c api.Class) {
	w.word(c.Name)
	w.number(c.Super)
	w.number(c.Slots)
	w.number(len(c.Methods))
	for _, m := range c.Methods {
		w.method(m)
	}
}

func (w *writer) method(m api.Method) {
	w.word(m.Name)
	w.number(m.Args)
	w.number(m.Temps)
	w.number(m.Prim)
	w.number(len(m.Code))
	for _, i := range m.Code {
		w.instr(i)
	}
}

func (w *writer) instr(i api.Instr) {
	w.number(i.Op)
	w.number(i.A)
	if i.Op == api.OpSend {
		w.word(i.Name)
	}
}

func (w *writer) object(o api.Object) {
	w.number(o.Class)
	w.number(len(o.Slots))
	for _, v := range o.Slots {
		w.number(v.Kind)
		w.number(v.N)
	}
}
