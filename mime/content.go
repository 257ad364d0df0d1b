package mime

import (
	"strings"

	"postbag/api"
)

const (
	blanks    = " \t"
	quotes    = `"`
	specials  = `()<>@,;:\"/[]?=` // what no token has in it, beside what can't be seen
	notInForm = "not in form"
)

// Type is what a content type's text means. What isn't in form is found deep within the reader: a panic leads out of there.
func Type(value string) (typ, sub string, params []api.Param, err error) {
	defer func() {
		if recover() != nil {
			typ, sub, params, err = "", "", nil, api.ErrForm
		}
	}()
	r := &reader{rest: value}
	r.skipBlanks()
	typ = r.name()
	r.mark("/")
	sub = r.name()
	for r.rest != "" {
		params = append(params, r.param())
	}
	return typ, sub, params, nil
}

// reader takes the pieces of a content type's text from its front, each with the blanks behind it.
type reader struct{ rest string }

func (r *reader) skipBlanks() {
	r.rest = strings.TrimLeft(r.rest, blanks)
}

func (r *reader) mark(m string) {
	rest, found := strings.CutPrefix(r.rest, m)
	if !found {
		panic(notInForm)
	}
	r.rest = rest
	r.skipBlanks()
}

func (r *reader) param() api.Param {
	r.mark(";")
	name := r.name()
	r.mark("=")
	if strings.HasPrefix(r.rest, quotes) {
		return api.Param{Name: name, Value: r.quoted()}
	}
	return api.Param{Name: name, Value: r.token()}
}

func (r *reader) name() string {
	return small(r.token())
}

func (r *reader) token() string {
	length := strings.IndexFunc(r.rest, notOfToken)
	if length < 0 {
		length = len(r.rest)
	}
	if length == 0 {
		panic(notInForm)
	}
	token := r.rest[:length]
	r.rest = r.rest[length:]
	r.skipBlanks()
	return token
}

// notOfToken may ask runes where tokens are bytes: a rune of several bytes, or of a byte that is none, is above 126.
func notOfToken(c rune) bool {
	return c < 33 || c > 126 || strings.ContainsRune(specials, c)
}

// quoted is what the quoted text means that is at the front.
func (r *reader) quoted() string {
	var meant strings.Builder
	behindSlash := false
	for i := len(quotes); i < len(r.rest); i++ {
		c := r.rest[i]
		switch {
		case behindSlash:
			meant.WriteByte(c)
			behindSlash = false
		case c == '\\':
			behindSlash = true
		case c == '"':
			r.rest = r.rest[i+1:]
			r.skipBlanks()
			return meant.String()
		default:
			meant.WriteByte(c)
		}
	}
	panic(notInForm)
}

// small goes by bytes: what the library makes small are letters beyond A to Z, too, and bytes that are no runes it changes.
func small(s string) string {
	b := []byte(s)
	for i, c := range b {
		if 'A' <= c && c <= 'Z' {
			b[i] = c - 'A' + 'a'
		}
	}
	return string(b)
}
