// Package sym is layer 1: symbols: see shared/doc/01-sym.md.
package sym

import (
	"strings"

	"retiary/api"
)

// Right tells whether a name may be.
func Right(name string) bool {
	if len(name) < 1 || len(name) > api.MaxName {
		return false
	}
	for _, sign := range name {
		if !fits(sign) {
			return false
		}
	}
	return true
}

// fits tells whether a sign may stand in a name.
func fits(sign rune) bool {
	switch {
	case 'a' <= sign && sign <= 'z':
		return true
	case 'A' <= sign && sign <= 'Z':
		return true
	case '0' <= sign && sign <= '9':
		return true
	}
	return sign == '-' || sign == '_'
}

// Table is names.
type Table struct {
	symbols map[string]int // by names
	names   []string       // by symbols, the first one's at 0
}

// New is a table without names.
func New() *Table { return &Table{} }

// Intern is a name's symbol, from now on.
func (t *Table) Intern(name string) (int, api.Errno) {
	if !Right(name) {
		return 0, api.ErrName
	}
	if sym, ok := t.symbols[name]; ok {
		return sym, api.OK
	}
	if len(t.names) >= api.MaxSym {
		return 0, api.ErrBig
	}
	return t.add(name), api.OK
}

// add gives a new name the next symbol.
func (t *Table) add(name string) int {
	// Not left to New alone: a Table that stands without New has no names either, and must not panic.
	if t.symbols == nil {
		t.symbols = map[string]int{}
	}
	// A name may be cut out of a long text, all of which would be kept with it.
	kept := strings.Clone(name)
	t.names = append(t.names, kept)
	t.symbols[kept] = len(t.names)
	return len(t.names)
}

// Find is a name's symbol.
func (t *Table) Find(name string) (int, bool) {
	sym, ok := t.symbols[name]
	return sym, ok
}

// Name is a symbol's name.
func (t *Table) Name(sym int) (string, bool) {
	if sym < 1 || sym > len(t.names) {
		return "", false
	}
	// What is answered shares no memory with what is kept.
	return strings.Clone(t.names[sym-1]), true
}

// Len is how many names there are.
func (t *Table) Len() int { return len(t.names) }
