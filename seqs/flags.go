package seqs

import (
	"strings"

	"postbag/api"
	"postbag/header"
)

// names are the flags' names, in the order of their bits: the first one is 1.
var names = [5]string{`\Seen`, `\Answered`, `\Flagged`, `\Deleted`, `\Draft`}

// Flags is the flags of a text.
func Flags(s string) (int, error) {
	behind, opened := strings.CutPrefix(s, "(")
	list, closed := strings.CutSuffix(behind, ")")
	if !opened || !closed {
		return 0, api.ErrForm
	}
	if list == "" {
		return 0, nil
	}
	flags := 0
	for name := range strings.SplitSeq(list, " ") {
		flag, known := flagOf(name)
		if !known {
			return 0, api.ErrForm
		}
		flags |= flag
	}
	return flags, nil
}

// FlagsText is flags' text.
func FlagsText(flags int) string {
	var held []string
	for i, name := range names {
		if flags&(1<<i) != 0 {
			held = append(held, name)
		}
	}
	return "(" + strings.Join(held, " ") + ")"
}

// Apply sets flags.
func Apply(flags, how, with int) int {
	switch how {
	case api.HowSet:
		return with & api.AllFlags
	case api.HowAdd:
		return (flags | with) & api.AllFlags
	case api.HowRemove:
		return flags &^ with & api.AllFlags
	}
	return flags
}

// flagOf asks layer 9's Same: the library's small and capital letters aren't those of A to Z alone.
func flagOf(name string) (int, bool) {
	for i, known := range names {
		if header.Same(name, known) {
			return 1 << i, true
		}
	}
	return 0, false
}
