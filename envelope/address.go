package envelope

import (
	"strings"

	"postbag/api"
)

const blanks = " \t"

// Addresses is a field's addresses.
func Addresses(value string) []api.Addr {
	var addrs []api.Addr
	for value != "" && len(addrs) < api.MaxAddrs {
		end := place(value, ',')
		if piece := strings.Trim(value[:end], blanks); piece != "" {
			addrs = append(addrs, addressOf(piece))
		}
		value = strings.TrimPrefix(value[end:], ",")
	}
	return addrs
}

func addressOf(piece string) api.Addr {
	name, address := "", piece
	if at := place(piece, '<'); at < len(piece) {
		name = nameOf(strings.Trim(piece[:at], blanks))
		address, _, _ = strings.Cut(piece[at+1:], ">")
	}
	local, domain := address, ""
	if at := strings.LastIndexByte(address, '@'); at >= 0 {
		local, domain = address[:at], address[at+1:]
	}
	return api.Addr{Name: name, Local: local, Domain: domain}
}

// nameOf is the name that a text means. A quoted text in it is closed, since a "<" outside of it comes behind.
func nameOf(text string) string {
	if strings.HasPrefix(text, `"`) && behind(text, 0) == len(text) {
		return meaning(text)
	}
	return text
}

// meaning is what a closed quoted text means.
func meaning(quoted string) string {
	var meant strings.Builder
	for at := 1; at < len(quoted)-1; at++ {
		if quoted[at] == '\\' {
			at++
		}
		meant.WriteByte(quoted[at])
	}
	return meant.String()
}

// place is where a mark stands first, neither in a quoted text nor between "<" and the next ">"; the text's size, if it stands nowhere.
func place(text string, mark byte) int {
	at := 0
	for at < len(text) && text[at] != mark {
		at = behind(text, at)
	}
	return at
}

// behind is the place behind what begins at a place. Whichever begins first hides the other: a "<" in a quoted text is none, and a quotation mark between "<" and ">" is none.
func behind(text string, at int) int {
	switch text[at] {
	case '"':
		return behindQuoted(text, at)
	case '<':
		return behindAngle(text, at)
	}
	return at + 1
}

func behindQuoted(text string, at int) int {
	for at++; at < len(text) && text[at] != '"'; at++ {
		if text[at] == '\\' {
			at++
		}
	}
	return min(at+1, len(text))
}

// behindAngle is the end where no ">" comes: the address goes so far, too.
func behindAngle(text string, at int) int {
	length := strings.IndexByte(text[at:], '>')
	if length < 0 {
		return len(text)
	}
	return at + length + 1
}
