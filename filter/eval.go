package filter

import (
	"slices"
	"strings"

	"verger/api"
	"verger/dn"
	"verger/rule"
)

// What a filter is evaluated to.
const (
	isUndefined = -1 + iota
	isFalse
	isTrue
)

// The syntaxes of layer 4 that filters tell apart; noSyntax is that of no
// type.
const (
	noSyntax    = 0
	textSyntax  = 1
	bytesSyntax = 2
	nameSyntax  = 5
)

// Eval tells to what a filter is evaluated over attributes.
func Eval(f Filter, attrs []api.Attr) int {
	if !Formed(f) {
		return isUndefined
	}
	return eval(f, attrs)
}

// eval is Eval of a formed filter.
func eval(f Filter, attrs []api.Attr) int {
	switch f.Kind {
	case and:
		return evalParts(f.Parts, attrs, isFalse)
	case or:
		return evalParts(f.Parts, attrs, isTrue)
	case not:
		return opposite(eval(f.Parts[0], attrs))
	}
	return evalSimple(f, attrs)
}

// evalParts tells what filters come to together, where one that is decisive
// decides, and an undefined one leaves it open.
func evalParts(parts []Filter, attrs []api.Attr, decisive int) int {
	together := opposite(decisive)
	for _, part := range parts {
		switch eval(part, attrs) {
		case decisive:
			return decisive
		case isUndefined:
			together = isUndefined
		}
	}
	return together
}

func opposite(truth int) int {
	switch truth {
	case isTrue:
		return isFalse
	case isFalse:
		return isTrue
	}
	return isUndefined
}

// evalSimple is eval of a filter without Parts.
func evalSimple(f Filter, attrs []api.Attr) int {
	name, syntax := rule.Type(f.Attr)
	if !applies(f, syntax) {
		return isUndefined
	}
	fitting := func(value string) bool { return fits(f, syntax, value) }
	for _, attr := range attrs {
		other, _ := rule.Type(attr.Type)
		if other == name && slices.ContainsFunc(attr.Values, fitting) {
			return isTrue
		}
	}
	return isFalse
}

// applies tells whether a filter of that syntax's type can be TRUE or FALSE.
func applies(f Filter, syntax int) bool {
	if syntax == noSyntax {
		return false
	}
	switch f.Kind {
	case present:
		return true
	case substrings:
		return syntax == textSyntax || syntax == bytesSyntax
	case atLeast, atMost:
		if syntax == bytesSyntax || syntax == nameSyntax {
			return false
		}
	}
	_, err := dn.Value(f.Attr, f.Value)
	return err == api.OK
}

// fits tells whether a value of its type is what a filter that applies to that
// looks for.
func fits(f Filter, syntax int, value string) bool {
	if f.Kind == present {
		return true
	}
	normal, err := dn.Value(f.Attr, value)
	if err != api.OK {
		return false
	}
	switch f.Kind {
	case substrings:
		return piecesFollow(f, syntax, normal)
	case atLeast:
		order, _ := rule.Compare(f.Attr, value, f.Value)
		return order >= 0
	case atMost:
		order, _ := rule.Compare(f.Attr, value, f.Value)
		return order <= 0
	case near:
		// Of names layer 4 tells nothing: these are near if they are alike.
		if syntax != nameSyntax {
			alike, _ := rule.Near(f.Attr, value, f.Value)
			return alike
		}
	}
	wanted, _ := dn.Value(f.Attr, f.Value)
	return normal == wanted
}

// piecesFollow tells whether a filter's pieces follow one another in a value's
// normal form. Each of Any is taken as early as it is met, since that leaves
// most room to those behind it.
func piecesFollow(f Filter, syntax int, normal string) bool {
	rest, ok := strings.CutPrefix(normal, normalPiece(f.First, syntax))
	if !ok {
		return false
	}
	for _, piece := range f.Any {
		_, rest, ok = strings.Cut(rest, normalPiece(piece, syntax))
		if !ok {
			return false
		}
	}
	return strings.HasSuffix(rest, normalPiece(f.Last, syntax))
}

// normalPiece tells what is looked for in the normal forms of that syntax. Its
// blanks stay, unlike a value's: it may begin or end in the midst of one.
func normalPiece(piece string, syntax int) string {
	if syntax != textSyntax {
		return piece
	}
	small := []byte(piece)
	for i, c := range small {
		if 'A' <= c && c <= 'Z' {
			small[i] = c - 'A' + 'a'
		}
	}
	return string(small)
}
