package filter

import (
	"strconv"
	"strings"

	"verger/api"
)

const (
	// signs are those of the kinds and, or and not, in the kinds' order.
	signs = "&|!"
	// special are the plain bytes that are written escaped.
	special   = `*()\`
	escape    = '\\'
	wild      = "*"
	hexDigits = "0123456789abcdef"
	// What isn't from the first of these bytes to the last is written escaped.
	firstPlain, lastPlain = ' ', '~'
)

// marks stand between an Attr and the sign of equality; of other kinds there is
// none.
var marks = [...]struct {
	kind int
	text string
}{
	{atLeast, ">"},
	{atMost, "<"},
	{near, "~"},
}

// Print tells a filter's text.
func Print(f Filter) (string, api.Errno) {
	if !Formed(f) {
		return "", api.ErrArg
	}
	return string(appendText(nil, f)), api.OK
}

// appendText puts a formed filter's text behind another text.
func appendText(text []byte, f Filter) []byte {
	text = append(text, '(')
	switch f.Kind {
	case and, or, not:
		text = append(text, signs[f.Kind])
		for _, part := range f.Parts {
			text = appendText(text, part)
		}
	default:
		text = append(text, f.Attr...)
		text = append(text, mark(f.Kind)...)
		text = append(text, '=')
		text = appendWanted(text, f)
	}
	return append(text, ')')
}

func mark(kind int) string {
	for _, m := range marks {
		if m.kind == kind {
			return m.text
		}
	}
	return ""
}

// appendWanted puts what a filter looks for in its Attr behind a text.
func appendWanted(text []byte, f Filter) []byte {
	switch f.Kind {
	case present:
		return append(text, wild...)
	case substrings:
		return appendPieces(text, f)
	}
	return appendValue(text, f.Value)
}

// appendPieces needs no case for a First or a Last that isn't there: where it
// would stand nothing is left but the wild byte beside it.
func appendPieces(text []byte, f Filter) []byte {
	text = appendValue(text, f.First)
	for _, piece := range f.Any {
		text = append(text, wild...)
		text = appendValue(text, piece)
	}
	text = append(text, wild...)
	return appendValue(text, f.Last)
}

// appendValue puts what is written for a value, or a piece, behind a text.
func appendValue(text []byte, value string) []byte {
	for i := range len(value) {
		c := value[i]
		if needsEscape(c) {
			text = append(text, escape, hexDigits[c>>4], hexDigits[c&0xf])
		} else {
			text = append(text, c)
		}
	}
	return text
}

func needsEscape(c byte) bool {
	return c < firstPlain || c > lastPlain || strings.IndexByte(special, c) >= 0
}

// Parse tells the filter of which s is the text.
func Parse(s string) (Filter, api.Errno) {
	if len(s) > api.MaxPDU {
		return Filter{}, api.ErrLong
	}
	f, rest, ok := read(s)
	if !ok || rest != "" || !Formed(f) {
		return Filter{}, api.ErrForm
	}
	return f, api.OK
}

// read tells the filter whose text s begins with, what stands behind that, and
// whether there is one. It is left to Formed whether that is formed.
func read(s string) (Filter, string, bool) {
	inner, ok := strings.CutPrefix(s, "(")
	if !ok || inner == "" {
		return Filter{}, "", false
	}
	if kind := strings.IndexByte(signs, inner[0]); kind >= 0 {
		return readParts(kind, inner[1:])
	}
	// A bracket within would be escaped, so that the next one is its end.
	text, rest, ok := strings.Cut(inner, ")")
	if !ok {
		return Filter{}, "", false
	}
	f, ok := readSimple(text)
	return f, rest, ok
}

// readParts is read of what stands behind the sign of a kind that has Parts.
func readParts(kind int, s string) (Filter, string, bool) {
	f := Filter{Kind: kind}
	for strings.HasPrefix(s, "(") {
		part, rest, ok := read(s)
		if !ok {
			return Filter{}, "", false
		}
		f.Parts = append(f.Parts, part)
		s = rest
	}
	rest, ok := strings.CutPrefix(s, ")")
	return f, rest, ok
}

// readSimple tells the filter without Parts that a text writes between its
// brackets, and whether it writes one.
func readSimple(text string) (Filter, bool) {
	head, written, ok := strings.Cut(text, "=")
	if !ok {
		return Filter{}, false
	}
	kind, attr := readHead(head)
	switch {
	case kind != equal || !strings.Contains(written, wild):
		value, ok := readValue(written)
		return Filter{Kind: kind, Attr: attr, Value: value}, ok
	case written == wild:
		return Filter{Kind: present, Attr: attr}, true
	}
	return readPieces(attr, written)
}

// readHead tells the kind and the Attr that are written ahead of a sign of
// equality.
func readHead(head string) (int, string) {
	// An answer shares no memory with what was handed in.
	for _, m := range marks {
		if attr, ok := strings.CutSuffix(head, m.text); ok {
			return m.kind, strings.Clone(attr)
		}
	}
	return equal, strings.Clone(head)
}

// readPieces tells the filter that looks for the pieces which a text with a
// wild byte writes, and whether it writes some.
func readPieces(attr, text string) (Filter, bool) {
	f := Filter{Kind: substrings, Attr: attr}
	pieces := strings.Split(text, wild)
	for i, written := range pieces {
		piece, ok := readValue(written)
		if !ok {
			return Filter{}, false
		}
		switch i {
		case 0:
			f.First = piece
		case len(pieces) - 1:
			f.Last = piece
		default:
			f.Any = append(f.Any, piece)
		}
	}
	return f, true
}

// readValue tells the value, or piece, that a text writes, and whether it
// writes one.
func readValue(text string) (string, bool) {
	value := make([]byte, 0, len(text))
	for rest := text; rest != ""; {
		c, size := readByte(rest)
		if size == 0 {
			return "", false
		}
		value = append(value, c)
		rest = rest[size:]
	}
	return string(value), true
}

// readByte tells the byte that is written at a text's beginning, and how many
// bytes write it; none, if nothing can begin so. Any byte may be escaped, also
// one that needn't be.
func readByte(text string) (byte, int) {
	if text[0] != escape {
		if needsEscape(text[0]) {
			return 0, 0
		}
		return text[0], 1
	}
	if len(text) < 3 {
		return 0, 0
	}
	c, err := strconv.ParseUint(text[1:3], 16, 8)
	if err != nil {
		return 0, 0
	}
	return byte(c), 3
}
