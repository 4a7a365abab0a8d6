// Package sig is layer 1: see shared/doc/01-sig.md.
package sig

import (
	"slices"

	"tammy/api"
)

// span is a range of bytes, both of its ends in it.
type span struct{ from, to byte }

func (s span) has(c byte) bool { return s.from <= c && c <= s.to }

// IsCon: is it a constructor's name?
func IsCon(s string) bool { return isName(s, span{'a', 'z'}.has) }

// IsVar: is it a variable's?
func IsVar(s string) bool { return isName(s, span{'A', 'Z'}.has) }

// isName leaves the first byte to the caller: the kinds of names differ in that alone.
func isName(s string, begins func(byte) bool) bool {
	if len(s) < 1 || len(s) > api.MaxName || !begins(s[0]) {
		return false
	}
	for i := 1; i < len(s); i++ {
		if !goesOn(s[i]) {
			return false
		}
	}
	return true
}

// goesOn: may a name have that byte behind its first?
func goesOn(c byte) bool {
	return span{'a', 'z'}.has(c) || span{'A', 'Z'}.has(c) || span{'0', '9'}.has(c) || c == '_'
}

// areArgs: may a constructor's parts vary so?
func areArgs(s string) bool {
	if len(s) > api.MaxArity {
		return false
	}
	for i := range len(s) {
		if s[i] != '+' && s[i] != '-' && s[i] != '=' {
			return false
		}
	}
	return true
}

// Right: is a row right?
func Right(l []api.Sig) bool {
	// The length comes first, so that a long row costs nothing.
	if len(l) > api.MaxSigs {
		return false
	}
	for i, s := range l {
		if !IsCon(s.Name) || !areArgs(s.Args) || Find(l, s.Name) != i {
			return false
		}
	}
	return true
}

// Add adds a constructor.
func Add(l []api.Sig, s api.Sig) ([]api.Sig, api.Errno) {
	// A copy with an error too: who writes into the answer must not write into l.
	out := make([]api.Sig, len(l), len(l)+1)
	copy(out, l)
	if e := mayAdd(l, s); e != api.OK {
		return out, e
	}
	return append(out, s), api.OK
}

// mayAdd asks in the order in which the document names the errors.
func mayAdd(l []api.Sig, s api.Sig) api.Errno {
	switch {
	case !IsCon(s.Name):
		return api.ErrName
	case !areArgs(s.Args):
		return api.ErrArg
	case Find(l, s.Name) >= 0:
		return api.ErrTwice
	case len(l) >= api.MaxSigs:
		return api.ErrFull
	}
	return api.OK
}

// Find is where a name's constructor stands.
func Find(l []api.Sig, name string) int {
	for i, s := range l {
		if s.Name == name {
			return i
		}
	}
	return -1
}

// Both is how a part of a part varies.
func Both(outer, inner byte) byte {
	switch {
	case isFixed(outer) || isFixed(inner):
		return '='
	case outer == inner:
		return '+'
	}
	return '-'
}

// isFixed: does a part that varies so not vary at all? A byte that is no sign counts as '='.
func isFixed(c byte) bool { return c != '+' && c != '-' }

// Same: are two rows the same?
func Same(a, b []api.Sig) bool { return slices.Equal(a, b) }
