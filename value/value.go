// Package value: typed values and what is done with them: see doc/01-value.md.
package value

import (
	"cmp"

	"refrain/api"
)

// Valid tells whether a value may be.
func Valid(v api.Value) bool {
	switch v.Kind {
	case api.KInt:
		return v.Str == "" && !v.Bool
	case api.KStr:
		return v.Int == 0 && !v.Bool && len(v.Str) <= api.MaxStr
	case api.KBool:
		return v.Int == 0 && v.Str == ""
	}
	return false
}

// Compare orders any two values.
func Compare(a, b api.Value) int {
	// All fields are asked, whatever the kinds: values that may not be have their order, too.
	return cmp.Or(
		cmp.Compare(a.Kind, b.Kind),
		cmp.Compare(a.Int, b.Int),
		cmp.Compare(a.Str, b.Str),
		compareTruth(a.Bool, b.Bool),
	)
}

func compareTruth(a, b bool) int {
	switch {
	case a == b:
		return 0
	case b:
		return -1
	}
	return 1
}

func number(n int64) api.Value { return api.Value{Kind: api.KInt, Int: n} }

func text(s string) api.Value { return api.Value{Kind: api.KStr, Str: s} }

func truth(b bool) api.Value { return api.Value{Kind: api.KBool, Bool: b} }
