package mime

import (
	"strconv"
	"strings"

	"postbag/api"
)

// Quote quotes a text for IMAP.
func Quote(s string) string {
	for _, c := range s {
		if c < 32 || c > 126 {
			return "{" + strconv.Itoa(len(s)) + "}\r\n" + s
		}
	}
	var quoted strings.Builder
	quoted.WriteString(quotes)
	for i := range len(s) {
		if s[i] == '"' || s[i] == '\\' {
			quoted.WriteByte('\\')
		}
		quoted.WriteByte(s[i])
	}
	quoted.WriteString(quotes)
	return quoted.String()
}

// Text is a part's structure, as IMAP tells it.
func Text(p api.Part) string {
	var text strings.Builder
	write(&text, p)
	return text.String()
}

// write goes on with one builder for all kids: texts that are put together level by level would be copied once a level.
func write(text *strings.Builder, p api.Part) {
	text.WriteByte('(')
	if len(p.Kids) > 0 {
		for _, kid := range p.Kids {
			write(text, kid)
		}
		text.WriteString(" " + Quote(p.Sub))
	} else {
		text.WriteString(strings.Join(words(p), " "))
	}
	text.WriteByte(')')
}

// words are what is told of a part without kids.
func words(p api.Part) []string {
	told := []string{
		Quote(p.Type), Quote(p.Sub), paramsText(p.Params),
		quoteOrNil(p.Id), quoteOrNil(p.Desc), Quote(p.Enc),
		strconv.Itoa(p.End - p.Body),
	}
	if p.Type == "text" {
		told = append(told, strconv.Itoa(p.Lines))
	}
	return told
}

func paramsText(params []api.Param) string {
	if len(params) == 0 {
		return "NIL"
	}
	told := make([]string, 0, 2*len(params))
	for _, p := range params {
		told = append(told, Quote(p.Name), Quote(p.Value))
	}
	return "(" + strings.Join(told, " ") + ")"
}

func quoteOrNil(s string) string {
	if s == "" {
		return "NIL"
	}
	return Quote(s)
}
