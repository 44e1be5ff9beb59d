package wire

import (
	"math"

	"refrain/api"
	"refrain/schema"
)

// reader reads bytes from the front on. Behind its first fault nothing is left to it: all that is read then is zero, and no later fault takes the first one's place.
type reader struct {
	rest  []byte
	fault api.Errno
}

func (r *reader) refuse(err api.Errno) {
	if r.fault == api.OK {
		r.fault = err
		r.rest = nil
	}
}

// events reads a batch's, up to the end.
func (r *reader) events() []api.Event {
	count := r.number(0, maxBatch)
	es := make([]api.Event, 0, count)
	for range count {
		es = append(es, r.event())
	}
	if len(r.rest) > 0 {
		r.refuse(api.ErrBytes)
	}
	return es
}

func (r *reader) event() api.Event {
	e := api.Event{Type: r.text(1, api.MaxName)}
	if !schema.Name(e.Type) {
		r.refuse(api.ErrBytes)
	}
	e.Time = r.number(0, api.MaxTime)
	count := r.number(0, api.MaxAttrs)
	e.Vals = make([]api.Value, 0, count)
	for range count {
		e.Vals = append(e.Vals, r.value())
	}
	return e
}

func (r *reader) value() api.Value {
	v := api.Value{Kind: int(r.single(api.KInt, api.KBool))}
	switch v.Kind {
	case api.KInt:
		v.Int = r.number(math.MinInt64, math.MaxInt64)
	case api.KStr:
		v.Str = r.text(0, api.MaxStr)
	case api.KBool:
		v.Bool = r.single(0, 1) == 1
	}
	return v
}

// text reads a length and as many bytes.
func (r *reader) text(least, most int64) string {
	length := r.number(least, most)
	if int64(len(r.rest)) < length {
		r.refuse(api.ErrShort)
		return ""
	}
	s := string(r.rest[:length])
	r.rest = r.rest[length:]
	return s
}

// number reads a number's form.
func (r *reader) number(least, most int64) int64 {
	n, size, err := Int(r.rest)
	if err == api.OK && (n < least || n > most) {
		err = api.ErrBytes
	}
	if err != api.OK {
		r.refuse(err)
		return 0
	}
	r.rest = r.rest[size:]
	return n
}

// single reads one byte.
func (r *reader) single(least, most byte) byte {
	if len(r.rest) == 0 {
		r.refuse(api.ErrShort)
		return 0
	}
	x := r.rest[0]
	if x < least || x > most {
		r.refuse(api.ErrBytes)
		return 0
	}
	r.rest = r.rest[1:]
	return x
}
