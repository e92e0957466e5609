package filter_test

import (
	"math/rand"
	"regexp"
	"slices"
	"strconv"
	"strings"
	"testing"
	"unsafe"

	"verger/api"
	"verger/filter"
)

// texts are filters with their texts.
func texts() []struct {
	f    filter.Filter
	text string
} {
	return []struct {
		f    filter.Filter
		text string
	}{
		{and(), "(&)"},
		{or(), "(|)"},
		{not(and()), "(!(&))"},
		{and(substrings("cn", "a", ""), not(equal("sn", "x"))), "(&(cn=a*)(!(sn=x)))"},
		{or(present("cn"), and(or(), and()), present("CN")), "(|(cn=*)(&(|)(&))(CN=*))"},
		{equal("cn", "Ann"), "(cn=Ann)"},
		{equal("CN", " Ann  LEE "), "(CN= Ann  LEE )"},
		{equal("x-9", "a=b"), "(x-9=a=b)"},
		{equal("cn", "="), "(cn==)"},
		{equal("cn", ">=a~<&|!"), "(cn=>=a~<&|!)"},
		{equal("cn", "~=a"), "(cn=~=a)"},
		{atLeast("serialNumber", "10"), "(serialNumber>=10)"},
		{atLeast("cn", "=a"), "(cn>==a)"},
		{atMost("cn", "<=a"), "(cn<=<=a)"},
		{near("position", "3+4i"), "(position~=3+4i)"},
		{present("objectClass"), "(objectClass=*)"},
		{equal("cn", "*"), `(cn=\2a)`},
		{equal("cn", "**"), `(cn=\2a\2a)`},
		{atLeast("cn", "*"), `(cn>=\2a)`},
		{equal("cn", "a(b)c*d\\e"), `(cn=a\28b\29c\2ad\5ce)`},
		{equal("cn", "\x00\x01\x1f \x7e\x7f\x80\xff"), `(cn=\00\01\1f ~\7f\80\ff)`},
		{equal("cn", "É"), `(cn=\c3\89)`},
		{equal("cn", "2a"), "(cn=2a)"},
		{equal("cn", `\2a`), `(cn=\5c2a)`},
		{substrings("cn", "a", ""), "(cn=a*)"},
		{substrings("cn", "", "a"), "(cn=*a)"},
		{substrings("cn", "", "", "a"), "(cn=*a*)"},
		{substrings("cn", "a", "b"), "(cn=a*b)"},
		{substrings("cn", "a", "", "b"), "(cn=a*b*)"},
		{substrings("cn", "", "c", "b"), "(cn=*b*c)"},
		{substrings("cn", "a", "c", "b"), "(cn=a*b*c)"},
		{substrings("cn", "a", "d", "b", "c"), "(cn=a*b*c*d)"},
		{substrings("cn", "", "", "b", "c"), "(cn=*b*c*)"},
		{substrings("cn", "*", "\xff", "(", ")", `\`), `(cn=\2a*\28*\29*\5c*\ff)`},
		{substrings("cn", " ", " ", " "), "(cn= * * )"},
	}
}

// holdText holds Print to a filter's text, and Parse to the filter.
func holdText(t *testing.T, f filter.Filter, text string) {
	t.Helper()
	if got, err := filter.Print(f); got != text || err != api.OK {
		t.Errorf("Print(%s): %.80q, %v; not %.80q", show(f), got, err, text)
	}
	if got, err := filter.Parse(text); !filter.Same(got, f) || err != api.OK {
		t.Errorf("Parse(%.80q): %s, %v; not %s", text, show(got), err, show(f))
	}
}

// P7.1, P7.3, and the chapter's examples: filters and their texts.
func TestTexts(t *testing.T) {
	for _, c := range texts() {
		holdText(t, c.f, c.text)
		holdText(t, not(c.f), "(!"+c.text+")")
		holdText(t, and(c.f, c.f), "(&"+c.text+c.text+")")
	}
}

// P7.1: each byte of a value, and of each piece.
func TestBytes(t *testing.T) {
	const digits = "0123456789abcdef"
	for i := range 256 {
		value, written := string([]byte{byte(i)}), string([]byte{byte(i)})
		if i < 32 || i > 126 || strings.Contains(`*()\`, value) {
			written = `\` + digits[i/16:i/16+1] + digits[i%16:i%16+1]
		}
		holdText(t, equal("cn", value), "(cn="+written+")")
		holdText(t, near("cn", "a"+value), "(cn~=a"+written+")")
		holdText(t, substrings("cn", value, value+"b", "c"+value, value), "(cn="+written+"*c"+written+"*"+written+"*"+written+"b)")
		holdEscaped(t, byte(i))
		if written == value || value == "*" {
			continue
		}
		for _, s := range []string{"(cn=" + value + ")", "(cn=a" + value + "a)", "(cn>=" + value + ")", "(cn=a" + value + "a*)", "(cn=*" + value + ")"} {
			holdNone(t, s, api.ErrForm)
		}
	}
}

// holdEscaped holds Parse to read a \ and two digits, in any case, for the
// byte that they write, in values and in all pieces.
func holdEscaped(t *testing.T, c byte) {
	t.Helper()
	const small, great = "0123456789abcdef", "0123456789ABCDEF"
	value := string([]byte{c})
	for _, high := range []string{small, great} {
		for _, low := range []string{small, great} {
			written := string([]byte{'\\', high[c/16], low[c%16]})
			for s, want := range map[string]filter.Filter{
				"(cn=" + written + ")":                                  equal("cn", value),
				"(cn=a" + written + "9)":                                equal("cn", "a"+value+"9"),
				"(cn<=" + written + written + ")":                       atMost("cn", value+value),
				"(cn=" + written + "*b" + written + "*" + written + ")": substrings("cn", value, value, "b"+value),
			} {
				if got, err := filter.Parse(s); !filter.Same(got, want) || err != api.OK {
					t.Errorf("Parse(%q): %s, %v", s, show(got), err)
				}
			}
		}
	}
}

// P7.1: what needn't be escaped is read escaped too, and printed plain.
func TestEscapedPlain(t *testing.T) {
	for s, text := range map[string]string{
		`(member=cn\3da)`:            "(member=cn=a)",
		`(cn=\61)`:                   "(cn=a)",
		`(cn=\41\6E\6e)`:             "(cn=Ann)",
		`(cn=\20\7E)`:                "(cn= ~)",
		`(cn=a\3D)`:                  "(cn=a=)",
		`(cn>=\3e\3c)`:               "(cn>=><)",
		`(cn~=\2b\27)`:               "(cn~=+')",
		`(cn=\5b*)`:                  "(cn=[*)",
		`(cn=*\5D*\26)`:              "(cn=*]*&)",
		`(cn=\5c61)`:                 `(cn=\5c61)`,
		`(cn=\5C\36\31)`:             `(cn=\5c61)`,
		`(cn=\2A)`:                   `(cn=\2a)`,
		`(cn=\61*\2a*)`:              `(cn=a*\2a*)`,
		`(&(ou=\78)(!(cn<=\FF\30)))`: `(&(ou=x)(!(cn<=\ff0)))`,
	} {
		f, err := filter.Parse(s)
		got, errPrint := filter.Print(f)
		if got != text || err != api.OK || errPrint != api.OK {
			t.Errorf("Parse(%q): %s, %v; printed %q, %v", s, show(f), err, got, errPrint)
		}
	}
}

// P7.1: what isn't a value or a piece has nothing that is escaped.
func TestEscapedOutside(t *testing.T) {
	for _, s := range []string{`(\63n=a)`, `(c\6e=*)`, `(cn\3da)`, `(cn\3d=a)`, `(cn\3e=a)`, `\28cn=a)`, `(cn=a\29`, `(\26)`, `(\21(cn=a))`, `\28\26\29`} {
		holdNone(t, s, api.ErrForm)
	}
}

// holdNone holds Parse to answer an error, and no filter beside it (R5).
func holdNone(t *testing.T, s string, want api.Errno) {
	t.Helper()
	if got, err := filter.Parse(s); !filter.Same(got, filter.Filter{}) || err != want {
		t.Errorf("Parse(%.80q): %s, %v; not %v", s, show(got), err, want)
	}
}

// P7.1: texts that are no filters'.
func TestNoTexts(t *testing.T) {
	over := strings.Repeat("a", api.MaxValue+1)
	for _, s := range []string{
		"", " ", "(", ")", "()", "(()", "())", "cn=a", "(cn=a", "cn=a)", "((cn=a))", "(cn=a))", "(cn=a)(cn=b)", " (cn=a)", "(cn=a) ", "(cn=a)\n",
		"&", "(&", "&)", "(& )", "( &)", "(&cn=a)", "(&(cn=a)", "(&(cn=a)b)", "(& (cn=a))", "(&(cn=a) )", "(&(cn=a) (cn=b))", "(&&)", "(&|)", "(&a)", "(&())",
		"(!)", "(!", "(!cn=a)", "(!(cn=a)(cn=b))", "(!(cn=a)", "(!!(cn=a))", "(!())", "(! (cn=a))", "(|(cn=a)))", "(|(|)(&)",
		"(cn)", "(cn=)", "(cn>=)", "(cn<=)", "(cn~=)", "(=)", "(=a)", "(=*)", "(>=a)", "(~=a)", "(cn>a)", "(cn<a)", "(cn~a)", "(cn:=a)", "(cn!=a)", "(cn=>)(", "(cn>>=a)", "(cn=~=*", "(cn~~=a)", "(cn<>=a)",
		"(cn >=a)", "(cn =a)", "( cn=a)", "(c n=a)", "(9=a)", "(-=a)", "(-a=*)", "(1cn=a*)", "(cn;x=a)", "(2.5.4.3=a)", "(c_n=a)", "(c\x00=a)", "(cné=a)", "(cn*=a)", "(*=a)", "(c(n=a)", "(c)n=a)",
		"(" + strings.Repeat("a", 41) + "=a)", "(" + strings.Repeat("a", 41) + "=*)", "(" + strings.Repeat("a", 41) + "=a*)",
		"(cn=**)", "(cn=***)", "(cn=a**)", "(cn=**a)", "(cn=a**b)", "(cn=*a**)", "(cn=**a*)",
		"(cn>=*)", "(cn<=*)", "(cn~=*)", "(cn>=a*)", "(cn<=*a)", "(cn~=a*b)",
		`(cn=\)`, `(cn=\2)`, `(cn=\2a`, `(cn=\g0)`, `(cn=\0g)`, `(cn=\+1)`, `(cn=\-1)`, `(cn=\_1)`, `(cn=\0x)`, `(cn=\\)`, `(cn=\*)`, `(cn=\()`, `(cn=\))`, `(cn=a*\)`, `(cn=\2*a)`, `(cn=a\5)`, `(cn= \ 1)`, `(cn=\1 )`,
		"(cn=\x00)", "(cn=\x1f)", "(cn=a\n)", "(cn=\x7f)", "(cn=\xff)", "(cn=É)", "(cn=É*)", "(cn=a(b)", "(cn=a)b)", "(cn=a(b)c)", "(cn=(a))",
		"(cn=" + over + ")", "(cn>=" + over + ")", "(cn=" + over + "*)", "(cn=*" + over + "*)", "(cn=*" + over + ")", "(cn=a*" + over + ")",
		"(cn=" + strings.Repeat(`\ff`, api.MaxValue+1) + ")",
	} {
		holdNone(t, s, api.ErrForm)
		holdNone(t, "(&"+s+"(", api.ErrForm)
	}
}

// P7.1: values and pieces of MaxValue bytes are read, however they are
// written.
func TestLongValues(t *testing.T) {
	full := strings.Repeat("a", api.MaxValue)
	holdText(t, equal(strings.Repeat("b", 40), full), "("+strings.Repeat("b", 40)+"="+full+")")
	holdText(t, atMost("cn", strings.Repeat("*", api.MaxValue)), "(cn<="+strings.Repeat(`\2a`, api.MaxValue)+")")
	holdText(t, substrings("cn", full, full, full, full), "(cn="+full+"*"+full+"*"+full+"*"+full+")")
	written := strings.Repeat(`\61`, api.MaxValue)
	if f, err := filter.Parse("(cn=" + written + ")"); !filter.Same(f, equal("cn", full)) || err != api.OK {
		t.Errorf("%s, %v", show(f), err)
	}
	holdNone(t, `(cn=\61`+written+")", api.ErrForm)
	holdNone(t, `(cn=a*\61`+written+"*)", api.ErrForm)
}

// P7.1: texts of too many filters, or of such nested too deep, are none's.
func TestTextLimits(t *testing.T) {
	deep := func(depth int) string {
		return strings.Repeat("(!", depth-1) + "(cn=a)" + strings.Repeat(")", depth-1)
	}
	many := func(count int) string { return "(&" + strings.Repeat("(cn=a)", count-1) + ")" }
	holdText(t, chain(api.MaxNest), deep(api.MaxNest))
	holdText(t, wide(api.MaxFilter), many(api.MaxFilter))
	for _, s := range []string{deep(api.MaxNest + 1), deep(api.MaxNest + 2), deep(5000), many(api.MaxFilter + 1), many(api.MaxFilter + 2), many(2000), "(&(cn=a)" + many(api.MaxFilter-1) + ")", strings.Repeat("(&", api.MaxPDU/3) + strings.Repeat(")", api.MaxPDU/3)} {
		holdNone(t, s, api.ErrForm)
	}
}

// P7.1: more than MaxPDU bytes are too long, whatever they are else (R6); so
// is the text of a formed filter.
func TestTextTooLong(t *testing.T) {
	pieces := slices.Repeat([]string{"a"}, (api.MaxPDU-len("(cn=*)"))/len("a*"))
	f := substrings("cn", "", "", pieces...)
	s := "(cn=*" + strings.Repeat("a*", len(pieces)) + ")"
	if len(s) != api.MaxPDU {
		t.Fatalf("%d bytes", len(s))
	}
	holdText(t, f, s)
	f.Any[0] = "ab"
	longer := strings.Replace(s, "a", "ab", 1)
	if got, err := filter.Print(f); got != longer || err != api.OK {
		t.Errorf("Print(%s): %.80q, %v", show(f), got, err)
	}
	holdNone(t, longer, api.ErrLong)
	for _, letter := range []string{"a", "(", ")", "\x00", "(!"} {
		s := strings.Repeat(letter, api.MaxPDU)[:api.MaxPDU]
		holdNone(t, s, api.ErrForm)
		holdNone(t, s+"a", api.ErrLong)
		holdNone(t, strings.Repeat(letter, 1<<20), api.ErrLong)
	}
}

// P7.1: what isn't formed has no text.
func TestPrintUnformed(t *testing.T) {
	for i, f := range unformed() {
		for _, g := range []filter.Filter{f, not(f), or(present("cn"), f)} {
			if s, err := filter.Print(g); s != "" || err != api.ErrArg {
				t.Errorf("Print of unformed %d: %.80q, %v", i, s, err)
			}
		}
	}
}

// P7.3: Parse undoes Print of random filters.
func TestManyTexts(t *testing.T) {
	r := rand.New(rand.NewSource(73))
	for range 20000 {
		f := random(r, 4)
		s, err := filter.Print(f)
		if !filter.Formed(f) {
			if s != "" || err != api.ErrArg {
				t.Errorf("Print(%s): %q, %v", show(f), s, err)
			}
			continue
		}
		got, errBack := filter.Parse(s)
		if !filter.Same(got, f) || err != api.OK || errBack != api.OK {
			t.Errorf("%s: %q, %v, then %s, %v", show(f), s, err, show(got), errBack)
		}
	}
}

const (
	// modelByte is what is written for a byte.
	modelByte = `(?:[ -'+-\[\]-~]|\\[0-9a-fA-F]{2})`
	// modelSimple is the text of a filter without Parts.
	modelSimple = `\([A-Za-z][A-Za-z0-9-]{0,39}(?:[<>~]?=B+|=B*\*(?:B+\*)*B*)\)`
	// modelJoined is that of one with Parts, where a byte 1 stands for each of
	// them.
	modelJoined = `\([&|]` + "\x01" + `*\)|\(!` + "\x01" + `\)`
)

// model tells which short texts are filters', by putting a byte for each that
// it finds, until none is left.
func model() func(s string) bool {
	simple := regexp.MustCompile(strings.ReplaceAll(modelSimple, "B", modelByte))
	joined := regexp.MustCompile(modelJoined)
	return func(s string) bool {
		s = simple.ReplaceAllString(s, "\x01")
		for before := ""; before != s; {
			before = s
			s = joined.ReplaceAllString(s, "\x01")
		}
		return s == "\x01"
	}
}

var (
	escapes      = regexp.MustCompile(`\\..`)
	plainEscapes = regexp.MustCompile(`\\(?:2[0-7b-f]|[346].|5[0-9abd-f]|7[0-9a-e])`)
)

// modelPrint is what a text's filter is printed as.
func modelPrint(s string) string {
	return escapes.ReplaceAllStringFunc(s, func(written string) string {
		written = strings.ToLower(written)
		return plainEscapes.ReplaceAllStringFunc(written, func(written string) string {
			c, _ := strconv.ParseUint(written[1:], 16, 8)
			return string([]byte{byte(c)})
		})
	})
}

// holdModel holds Parse of a short text to the model, and to Print: a text is
// the one that is printed, but for the case of its digits, and for what needn't
// be escaped.
func holdModel(t *testing.T, isText func(string) bool, s string) bool {
	t.Helper()
	f, err := filter.Parse(s)
	if !isText(s) {
		if !filter.Same(f, filter.Filter{}) || err != api.ErrForm {
			t.Errorf("Parse(%q): %s, %v", s, show(f), err)
		}
		return false
	}
	text, errPrint := filter.Print(f)
	if want := modelPrint(s); text != want || err != api.OK || errPrint != api.OK {
		t.Errorf("Parse(%q): %s, %v; printed %q, %v", s, show(f), err, text, errPrint)
	}
	return true
}

// P7.1, P7.3: all short texts, of brackets and of what stands in them.
func TestAllShort(t *testing.T) {
	isText, found := model(), 0
	var see func(ahead, behind string, pieces []string, left int)
	see = func(ahead, behind string, pieces []string, left int) {
		if holdModel(t, isText, ahead+behind) {
			found++
		}
		if left == 0 {
			return
		}
		for _, p := range pieces {
			see(ahead+p, behind, pieces, left-1)
		}
	}
	see("", "", []string{"(", ")", "&", "|", "!", "(cn=a)"}, 7)
	see("(cn=", ")", []string{"*", "a", `\`, "2a", "5C", "4", "\xff", " ", "(", "="}, 5)
	see("(", ")", []string{"cn", "-", "9", "=", ">", "~", "<", "*", "a", "&"}, 5)
	if found < 10000 {
		t.Errorf("just %d texts are filters'", found)
	}
}

// R3: no answer of Parse shares memory with the text, or with another one.
func TestMemoryOfParse(t *testing.T) {
	const text = `(&(cn=ab)(ou>=\ff)(o=a*b*c*d)(!(x=*))(o=a*b*c*d))`
	room := []byte(text)
	first, err := filter.Parse(unsafe.String(&room[0], len(room)))
	second, _ := filter.Parse(text)
	want := and(equal("cn", "ab"), atLeast("ou", "\xff"), substrings("o", "a", "d", "b", "c"), not(present("x")), substrings("o", "a", "d", "b", "c"))
	if string(room) != text {
		t.Errorf("changed to %q", room)
	}
	for i := range room {
		room[i] = '!'
	}
	if !filter.Same(first, want) || err != api.OK {
		t.Fatalf("%s, %v", show(first), err)
	}
	overwrite(first.Parts[2].Any)
	if !filter.Same(first.Parts[4], want.Parts[4]) || !filter.Same(first.Parts[3], want.Parts[3]) {
		t.Errorf("%s", show(first))
	}
	inner := first.Parts[3].Parts
	clear(inner[:cap(inner)])
	first.Parts[3].Parts = nil
	if !filter.Same(first.Parts[4], want.Parts[4]) || !filter.Same(second, want) {
		t.Errorf("%s, %s", show(first), show(second))
	}
	clear(first.Parts[:cap(first.Parts)])
	if !filter.Same(second, want) {
		t.Errorf("%s", show(second))
	}
}

func overwrite(list []string) {
	for i := range list[:cap(list)] {
		list[:cap(list)][i] = "!"
	}
}

// R3: Print answers a text that shares nothing with the filter's.
func TestMemoryOfPrint(t *testing.T) {
	room := []byte("cn#value#first")
	given := func(from, to int) string { return unsafe.String(&room[from], to-from) }
	value, _ := filter.Print(equal(given(0, 2), given(3, 8)))
	piece, _ := filter.Print(substrings(given(0, 2), given(9, 14), "", given(3, 8)))
	has, _ := filter.Print(present(given(0, 2)))
	for i := range room {
		room[i] = '!'
	}
	if value != "(cn=value)" || piece != "(cn=first*value*)" || has != "(cn=*)" {
		t.Errorf("%q, %q, %q", value, piece, has)
	}
}

// R3: a filter that is handed in is left as it is, its spare room too.
func TestMemoryOfFilters(t *testing.T) {
	parts := []filter.Filter{present("ahead"), substrings("cn", "A", "B", "C", "D", "E"), equal("cn", "A"), present("behind")}
	pieces := []string{"ahead", "C", "D", "behind"}
	parts[1].Any = pieces[1:3]
	want := again(and(parts...))
	f := and(parts[1:3]...)
	attrs := []api.Attr{{Type: "cn", Values: []string{"acdb", "a"}}}
	if !filter.Formed(f) || !filter.Same(f, f) || filter.Nodes(f) != 3 || filter.Eval(f, attrs) != 1 {
		t.Errorf("%s", show(f))
	}
	if s, err := filter.Print(f); s != "(&(cn=A*C*D*B)(cn=A))" || err != api.OK {
		t.Errorf("Print: %q, %v", s, err)
	}
	if !filter.Same(and(parts...), want) || !slices.Equal(pieces, []string{"ahead", "C", "D", "behind"}) {
		t.Errorf("changed to %s, %q", show(and(parts...)), pieces)
	}
}
