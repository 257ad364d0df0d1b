package boxes

import "strings"

// A glob is a pattern of a part: the bytes ahead of, between and behind its "%".
type glob []string

// A run is a pattern without "*": a glob for each part. No "%" goes beyond a part, so that a run fits just as many parts as it has globs.
type run []glob

// runsOf are what stands ahead of, between and behind the "*" of a pattern. Each one behind a "*" may begin anywhere in a part: it has a "%" at its front.
func runsOf(pattern string) []run {
	var runs []run
	for text := range strings.SplitSeq(simplest(pattern), "*") {
		if len(runs) > 0 {
			text = "%" + text
		}
		runs = append(runs, runOf(text))
	}
	return runs
}

func runOf(text string) run {
	var r run
	for part := range strings.SplitSeq(text, "/") {
		r = append(r, strings.Split(part, "%"))
	}
	return r
}

// simplest is a pattern that fits the same names, with no two of "*" and "%" side by side: so each step of fits takes a byte of the name, however long the pattern is.
func simplest(pattern string) string {
	kept := make([]byte, 0, len(pattern))
	for i := range len(pattern) {
		c, last := pattern[i], len(kept)-1
		switch {
		case last < 0 || !isWild(c) || !isWild(kept[last]):
			kept = append(kept, c)
		case c == '*':
			kept[last] = c
		}
	}
	return string(kept)
}

func isWild(c byte) bool { return c == '%' || c == '*' }

// fits tells whether runs fit a name, with any bytes between them. Each run but the last one is taken as far ahead as it fits: that leaves the most to those behind it.
func fits(runs []run, name string) bool {
	parts := strings.Split(name, "/")
	last := len(runs) - 1
	if last == 0 {
		return len(parts) == len(runs[0]) && fitsEnd(parts, runs[0])
	}
	parts, found := cutFront(parts, runs[0])
	for i := 1; found && i < last; i++ {
		parts, found = cutFirst(parts, runs[i])
	}
	return found && fitsEnd(parts, runs[last])
}

// fitsEnd tells whether a run fits the last parts.
func fitsEnd(parts []string, r run) bool {
	if len(parts) < len(r) {
		return false
	}
	return fitsEach(parts[len(parts)-len(r):], r)
}

// cutFirst is what is behind the first parts that a run fits.
func cutFirst(parts []string, r run) ([]string, bool) {
	for ; len(parts) >= len(r); parts = parts[1:] {
		if left, found := cutFront(parts, r); found {
			return left, true
		}
	}
	return nil, false
}

// cutFront is what is behind the shortest front of the parts that a run fits. Where there is one, the last part of it is cut on the spot: the parts are the caller's own copy, which isn't asked again.
func cutFront(parts []string, r run) ([]string, bool) {
	last := len(r) - 1
	if len(parts) <= last || !fitsEach(parts, r[:last]) {
		return nil, false
	}
	rest, found := cutPart(parts[last], r[last])
	if !found {
		return nil, false
	}
	left := parts[last:]
	left[0] = rest
	return left, true
}

// fitsEach tells whether each glob fits its part.
func fitsEach(parts []string, globs []glob) bool {
	for i, g := range globs {
		if !fitsPart(parts[i], g) {
			return false
		}
	}
	return true
}

func fitsPart(part string, g glob) bool {
	last := len(g) - 1
	if last == 0 {
		return part == g[0]
	}
	rest, found := strings.CutSuffix(part, g[last])
	if found {
		_, found = cutPart(rest, g[:last])
	}
	return found
}

// cutPart is what is behind the shortest front of a part that a glob fits.
func cutPart(part string, g glob) (rest string, found bool) {
	rest, found = strings.CutPrefix(part, g[0])
	for i := 1; found && i < len(g); i++ {
		_, rest, found = strings.Cut(rest, g[i])
	}
	return rest, found
}
