package csv

import (
	"strings"

	"refrain/api"
	"refrain/value"
)

// form is how the values of a kind stand in cells. Of a cell that is no value's, read gives the zero value, or one of another kind.
type form struct {
	read  func(cell string) api.Value
	write func(v api.Value) string
}

// formOf gives a kind's form; of a number that is no kind one without functions.
func formOf(kind int) form {
	forms := [...]form{
		api.KInt:  {read: readShown, write: show},
		api.KStr:  {read: readBytes, write: bytesOf},
		api.KBool: {read: readShown, write: show},
	}
	if kind < 0 || kind >= len(forms) {
		return form{}
	}
	return forms[kind]
}

func readShown(cell string) api.Value {
	v, _ := value.Read(cell)
	return v
}

func show(v api.Value) string {
	cell, _ := value.Show(v)
	return cell
}

// readBytes copies the cell: a value that is kept shall not keep a long text of which it is a piece.
func readBytes(cell string) api.Value {
	if len(cell) > api.MaxStr {
		return api.Value{}
	}
	return api.Value{Kind: api.KStr, Str: strings.Clone(cell)}
}

func bytesOf(v api.Value) string { return strings.Clone(v.Str) }

// Event reads an event of a type from a row.
func Event(t api.Type, row []string) (api.Event, api.Errno) {
	if len(row) != 1+len(t.Attrs) {
		return api.Event{}, api.ErrArity
	}
	time := formOf(api.KInt).read(row[0])
	if time.Kind != api.KInt || !timely(time.Int) {
		return api.Event{}, api.ErrTime
	}
	for _, a := range t.Attrs {
		if formOf(a.Kind).read == nil {
			return api.Event{}, api.ErrKind
		}
	}
	vals := make([]api.Value, 0, len(t.Attrs))
	for i, a := range t.Attrs {
		v := formOf(a.Kind).read(row[1+i])
		if v.Kind != a.Kind {
			return api.Event{}, api.ErrValue
		}
		vals = append(vals, v)
	}
	return api.Event{Type: strings.Clone(t.Name), Time: time.Int, Vals: vals}, api.OK
}

// Row writes an event as a row.
func Row(t api.Type, e api.Event) ([]string, api.Errno) {
	if err := fault(t, e); err != api.OK {
		return nil, err
	}
	row := make([]string, 0, 1+len(e.Vals))
	row = append(row, show(api.Value{Kind: api.KInt, Int: e.Time}))
	for _, v := range e.Vals {
		row = append(row, formOf(v.Kind).write(v))
	}
	return row, api.OK
}

// fault tells why an event is no row of the type.
func fault(t api.Type, e api.Event) api.Errno {
	switch {
	case e.Type != t.Name:
		return api.ErrType
	case !timely(e.Time):
		return api.ErrTime
	case len(e.Vals) != len(t.Attrs):
		return api.ErrArity
	}
	for i, v := range e.Vals {
		if !value.Valid(v) {
			return api.ErrValue
		}
		if v.Kind != t.Attrs[i].Kind {
			return api.ErrKind
		}
	}
	return api.OK
}

// timely tells whether a number may be a time.
func timely(n int64) bool { return n >= 0 && n <= api.MaxTime }
