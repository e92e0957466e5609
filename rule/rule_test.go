package rule_test

import (
	"cmp"
	"math/big"
	"math/rand"
	"regexp"
	"strings"
	"testing"
	"unsafe"

	"verger/api"
	"verger/phasor"
	"verger/rule"
)

const (
	text = 1 + iota
	octets
	integer
	plane
	name
)

// syntaxes are the chapter's types, by their names.
func syntaxes() map[string]int {
	return map[string]int{
		"objectClass": text, "cn": text, "ou": text, "o": text, "dc": text, "uid": text, "description": text, "mail": text,
		"userPassword": octets, "ref": octets,
		"serialNumber":      integer,
		"position":          plane,
		"aliasedObjectName": name, "member": name,
	}
}

// ofSyntax tells the types of a syntax, each also in other letters.
func ofSyntax(syntax int) []string {
	var list []string
	for typ, s := range syntaxes() {
		if s == syntax {
			list = append(list, typ, strings.ToUpper(typ), strings.ToLower(typ))
		}
	}
	return list
}

// noTypes are names that are no type's.
func noTypes() []string {
	list := []string{
		"", " ", "x", "sn", "c", "cnn", "ccn", "c n", "c\x00n", "object class", "object-class", "objectClass2", "objectClas", "bjectClass",
		"password", "user", "serial", "number", "2.5.4.3", "cn;lang-en", "*", "+", "top", "person", "text", "name", "\xff", "cn\xff",
		// Letters beyond A to Z that are great or small ones of these for some.
		"objectCla\u017fs", "de\u017fcription", "userPa\u017f\u017fword", "\u017ferialNumber", "po\u017fition", "o\u0307", "\u1d0f", "ｃｎ", "uıd", "uİd", "maıl",
		strings.Repeat("cn", 100000),
	}
	for typ := range syntaxes() {
		list = append(list, typ+" ", " "+typ, typ+"\x00", typ+typ)
		// Bytes that differ from a letter just as its great one does.
		for i := range typ {
			for _, flip := range []byte{0x01, 0x40, 0x60, 0x80, 0xa0} {
				list = append(list, typ[:i]+string([]byte{typ[i] ^ flip})+typ[i+1:])
			}
		}
	}
	var none []string
	for _, s := range list {
		if !isType(s) {
			none = append(none, s)
		}
	}
	return none
}

// isType tells it of names in bytes of ASCII by the library, of others never.
func isType(s string) bool {
	for typ := range syntaxes() {
		if len(s) == len(typ) && strings.EqualFold(s, typ) {
			return true
		}
	}
	return false
}

// normalText writes syntax 1's normal form by the chapter's words.
func normalText(s string) (string, bool) {
	if len(s) < 1 || len(s) > api.MaxValue || strings.Contains(s, "\x00") {
		return "", false
	}
	for strings.Contains(s, "  ") {
		s = strings.ReplaceAll(s, "  ", " ")
	}
	s = strings.TrimPrefix(strings.TrimSuffix(s, " "), " ")
	for c := 'A'; c <= 'Z'; c++ {
		s = strings.ReplaceAll(s, string(c), string(c+'a'-'A'))
	}
	return s, s != ""
}

// theIntegers is the form of all integers' digits.
var theIntegers = regexp.MustCompile(`^(0|-?[1-9][0-9]{0,17})$`)

// eachString calls see with every text of at most most of the pieces.
func eachString(pieces []string, most int, see func(string)) {
	var grow func(s string, left int)
	grow = func(s string, left int) {
		see(s)
		if left == 0 {
			return
		}
		for _, p := range pieces {
			grow(s+p, left-1)
		}
	}
	grow("", most)
}

// someValues are values of every kind, good and bad ones of each syntax.
func someValues() []string {
	return []string{
		"", " ", "   ", "a", "A", "a ", " a", "a  b", "A b", "ab", "a\x00", "\x00", "\xff", "É", "é", "\t", "a\tb", "Ann Lee", "annlee", " ANN   lee ",
		"0", "-0", "1", "-1", "01", "9", "10", "+1", "999999999999999999", "1000000000000000000", "-999999999999999999",
		"i", "-i", "3+4i", "5", "-5", "4-3i", "1i", "0+i", "1000000", "1000001", "1000001i",
		"cn=a", "cn=a,dc=x", "CN=A, b",
		strings.Repeat("a", api.MaxValue), strings.Repeat("a", api.MaxValue+1), strings.Repeat(" ", api.MaxValue-1) + "a", strings.Repeat(" ", api.MaxValue) + "a",
		strings.Repeat("9", 100000),
	}
}

// holdNormal holds Normal to an answer of every type of a syntax.
func holdNormal(t *testing.T, syntax int, value, want string, wantErr api.Errno) {
	t.Helper()
	for _, typ := range ofSyntax(syntax) {
		if got, err := rule.Normal(typ, value); got != want || err != wantErr {
			t.Errorf("Normal(%s, %.60q): %.60q, %v; not %.60q, %v", typ, value, got, err, want, wantErr)
		}
	}
}

// P4.1, P4.2: the chapter's examples.
func TestExamples(t *testing.T) {
	if s, err := rule.Normal("CN", " Ann  LEE "); s != "ann lee" || err != api.OK {
		t.Errorf("Normal: %q, %v", s, err)
	}
	if n, err := rule.Compare("serialNumber", "10", "9"); n != 1 || err != api.OK {
		t.Errorf("Compare: %d, %v", n, err)
	}
	if near, err := rule.Near("position", "3+4i", "5"); !near || err != api.OK {
		t.Errorf("Near: %v, %v", near, err)
	}
}

// P4.1: each type, in whatever case, has its own name and its syntax.
func TestType(t *testing.T) {
	for typ, syntax := range syntaxes() {
		for _, s := range []string{typ, strings.ToUpper(typ), strings.ToLower(typ), strings.ToUpper(typ[:1]) + strings.ToLower(typ[1:])} {
			if got, n := rule.Type(s); got != typ || n != syntax {
				t.Errorf("Type(%q): %q, %d; not %q, %d", s, got, n, typ, syntax)
			}
		}
		for i := range typ {
			s := typ[:i] + strings.ToUpper(typ[i:i+1]) + typ[i+1:]
			if got, n := rule.Type(s); got != typ || n != syntax {
				t.Errorf("Type(%q): %q, %d; not %q, %d", s, got, n, typ, syntax)
			}
		}
	}
}

// P4.1, R1: what is no type's name.
func TestTypeOfNoType(t *testing.T) {
	for _, s := range noTypes() {
		if got, n := rule.Type(s); got != "" || n != 0 {
			t.Errorf("Type(%.60q): %q, %d", s, got, n)
		}
	}
}

// P4.1: of short names those of the table are types, and no others.
func TestTypeOfAllShort(t *testing.T) {
	eachString([]string{"c", "n", "C", "N", "o", "O", "u", "U", "d", "D", "i", "I", " ", "\u017f"}, 4, func(s string) {
		got, n := rule.Type(s)
		if isType(s) != (n != 0) || (got == "") != (n == 0) || n != 0 && (syntaxes()[got] != n || !strings.EqualFold(got, s)) {
			t.Errorf("Type(%q): %q, %d", s, got, n)
		}
	})
}

// P4.1: texts in their normal form.
func TestNormalOfText(t *testing.T) {
	for value, want := range map[string]string{
		"a": "a", "A": "a", "Az": "az", "ABCXYZ": "abcxyz", "@[`{": "@[`{", "0-9": "0-9",
		" a": "a", "a ": "a", "   a   ": "a", "a b": "a b", "a  b": "a b", "a     b  c": "a b c", " A  B ": "a b", "  .  ": ".",
		"\t": "\t", " \tA\n ": "\ta\n", "a\t\tb": "a\t\tb", "\v\f\r": "\v\f\r", "\x01": "\x01", "\x1f \x7f": "\x1f \x7f",
		"\xff": "\xff", "A\xc3\x89": "a\xc3\x89", "ÄÉ": "ÄÉ", "\u212a": "\u212a", "\u0130": "\u0130", "\u00a0": "\u00a0", "\u2003a": "\u2003a", "\x80 \xa0": "\x80 \xa0",
		"(a*)": "(a*)", "a,b=c+d": "a,b=c+d", "\\20": "\\20",
	} {
		holdNormal(t, text, value, want, api.OK)
	}
}

// P4.1, R5: texts without a normal form.
func TestNormalOfNoText(t *testing.T) {
	for _, value := range []string{"", " ", "  ", strings.Repeat(" ", api.MaxValue), "\x00", "a\x00", "\x00a", " \x00 ", "a\x00b"} {
		holdNormal(t, text, value, "", api.ErrForm)
	}
}

// P4.1: of every short text the normal form is what the chapter's words make.
func TestNormalOfAllShortTexts(t *testing.T) {
	eachString([]string{" ", "a", "B", "\x00", "\t", "\xc9"}, 6, func(s string) {
		want, ok := normalText(s)
		got, err := rule.Normal("cn", s)
		if got != want && ok || ok != (err == api.OK) || !ok && (got != "" || err != api.ErrForm) {
			t.Errorf("Normal(cn, %q): %q, %v; not %q", s, got, err, want)
		}
	})
}

// P4.1: each byte by itself, in a text and in bytes.
func TestNormalOfEachByte(t *testing.T) {
	for c := range 256 {
		s := string([]byte{'x', byte(c), 'x'})
		want, wantErr := s, api.OK
		switch {
		case c == 0:
			want, wantErr = "", api.ErrForm
		case 'A' <= c && c <= 'Z':
			want = string([]byte{'x', byte(c) + 32, 'x'})
		}
		holdNormal(t, text, s, want, wantErr)
		holdNormal(t, octets, s, s, api.OK)
	}
}

// P4.1: bytes are their own normal form, whatever they are.
func TestNormalOfBytes(t *testing.T) {
	for _, value := range []string{"a", "A", " ", "   ", " A  b ", "\x00", "\x00\x00", "a\x00b", "\xff\xfe", "É", "\t", "03", "-0"} {
		holdNormal(t, octets, value, value, api.OK)
	}
	holdNormal(t, octets, "", "", api.ErrForm)
}

// P4.1: an integer's digits, at the bound too, and what is none's.
func TestNormalOfIntegers(t *testing.T) {
	most := strings.Repeat("9", 18)
	for _, value := range []string{"0", "1", "-1", "7", "10", "-10", "100", "123456789012345678", most, "-" + most, "1" + strings.Repeat("0", 17), "-1" + strings.Repeat("0", 17)} {
		holdNormal(t, integer, value, value, api.OK)
	}
	for _, value := range []string{
		"", "-", "+", "--1", "-+1", "+1", "+0", "-0", "-00", "00", "01", "-01", "007", " 1", "1 ", "1 2", "- 1", "1-", "1\x00", "\x001",
		"1.0", "1.", ".1", "1e3", "0x1", "0b1", "0o7", "1_000", "1,000", "a", "i", "NaN", "Inf", "½", "٣", "１", "\xff",
		"1" + strings.Repeat("0", 18), "-1" + strings.Repeat("0", 18), most + "9", "-" + most + "9", "9223372036854775807", "-9223372036854775808", "9223372036854775808",
		"18446744073709551616", "18446744073709551617", "0" + most, strings.Repeat("0", 18), strings.Repeat("9", api.MaxValue), strings.Repeat("9", 100000),
	} {
		holdNormal(t, integer, value, "", api.ErrForm)
	}
}

// P4.1: of every short text of digits and signs, those of integers' form are.
func TestNormalOfAllShortIntegers(t *testing.T) {
	eachString([]string{"0", "1", "9", "-", "+", " ", "_", "x"}, 5, func(s string) {
		want, wantErr := "", api.ErrForm
		if theIntegers.MatchString(s) {
			want, wantErr = s, api.OK
		}
		if got, err := rule.Normal("serialNumber", s); got != want || err != wantErr {
			t.Errorf("Normal(serialNumber, %q): %q, %v", s, got, err)
		}
	})
}

// P4.1: a number of the plane is layer 3's text.
func TestNormalOfNumbers(t *testing.T) {
	for _, value := range []string{"0", "1", "-2", "i", "-i", "2i", "3-i", "3+4i", "-3-4i", "1000000-1000000i"} {
		holdNormal(t, plane, value, value, api.OK)
	}
	for _, value := range []string{"", " ", "-0", "03", "1i", "+i", "0+i", "5+0i", "3+", "ii", "I", "3 + i", " 3", "3 ", "1000001", "1+1000001i", "3+i\x00"} {
		holdNormal(t, plane, value, "", api.ErrForm)
	}
	eachString([]string{"0", "1", "2", "-", "+", "i", " "}, 5, func(s string) {
		want, wantErr := "", api.ErrForm
		if _, err := phasor.Parse(s); err == api.OK {
			want, wantErr = s, api.OK
		}
		if got, err := rule.Normal("position", s); got != want || err != wantErr {
			t.Errorf("Normal(position, %q): %q, %v", s, got, err)
		}
	})
}

// P4.1: a value has 1 to MaxValue bytes, as it is handed in.
func TestLengthOfValues(t *testing.T) {
	for _, n := range []int{1, 2, api.MaxValue - 1, api.MaxValue} {
		holdNormal(t, text, strings.Repeat("A", n), strings.Repeat("a", n), api.OK)
		holdNormal(t, octets, strings.Repeat("A", n), strings.Repeat("A", n), api.OK)
		holdNormal(t, text, strings.Repeat(" ", n-1)+"A", "a", api.OK)
		holdNormal(t, text, "A"+strings.Repeat(" ", n-1), "a", api.OK)
	}
	for _, n := range []int{api.MaxValue + 1, api.MaxValue + 2, 255, 256, 257, 65536 + 1, 1 << 20} {
		for _, value := range []string{strings.Repeat("A", n), strings.Repeat(" ", n-1) + "A", "A" + strings.Repeat(" ", n-1), "A" + strings.Repeat(" ", n-2) + "B"} {
			holdNormal(t, text, value, "", api.ErrForm)
			holdNormal(t, octets, value, "", api.ErrForm)
		}
	}
}

// everyCall asks all calls that answer an error about one type.
func everyCall(typ, a, b string) (zero bool, errs [4]api.Errno) {
	normal, e := rule.Normal(typ, a)
	same, f := rule.Same(typ, a, b)
	order, g := rule.Compare(typ, a, b)
	near, h := rule.Near(typ, a, b)
	return normal == "" && !same && order == 0 && !near, [4]api.Errno{e, f, g, h}
}

// P4.1, P4.2, R5, R6: that there is no such type is asked ahead of the values,
// and that its syntax is layer 6's too.
func TestTypesWithoutForms(t *testing.T) {
	hold := func(typ string, want api.Errno) {
		for _, a := range someValues() {
			for _, b := range []string{a, "", "a", "1"} {
				if zero, errs := everyCall(typ, a, b); !zero || errs != [4]api.Errno{want, want, want, want} {
					t.Fatalf("%.60q of %.60q, %.60q: %v, %v", typ, a, b, zero, errs)
				}
			}
		}
	}
	for _, typ := range noTypes() {
		hold(typ, api.ErrNone)
	}
	for _, typ := range ofSyntax(name) {
		hold(typ, api.ErrArg)
	}
}

// P4.1, P4.2, R5: a value without a normal form, at either place, is Normal's
// error, and nothing beside it.
func TestValuesWithoutForms(t *testing.T) {
	good := map[int]string{text: "a", octets: "a", integer: "1", plane: "i"}
	for syntax, value := range good {
		for _, typ := range ofSyntax(syntax) {
			for _, bad := range someValues() {
				_, want := rule.Normal(typ, bad)
				if want == api.OK {
					continue
				}
				for _, pair := range [][2]string{{bad, value}, {value, bad}, {bad, bad}} {
					same, e := rule.Same(typ, pair[0], pair[1])
					order, f := rule.Compare(typ, pair[0], pair[1])
					near, g := rule.Near(typ, pair[0], pair[1])
					if same || order != 0 || near || e != api.ErrForm || f != api.ErrForm || g != api.ErrForm || want != api.ErrForm {
						t.Errorf("%s of %.60q: %v %v, %d %v, %v %v", typ, pair, same, e, order, f, near, g)
					}
				}
			}
		}
	}
}

// P4.1, P4.2: Same, Compare and Near of pairs of every syntax.
func TestPairs(t *testing.T) {
	for _, c := range []struct {
		syntax int
		a, b   string
		same   bool
		order  int
		near   bool
	}{
		{text, "Ann Lee", " ANN   LEE ", true, 0, true},
		{text, "Ann Lee", "annlee", false, -1, true},
		{text, "a n n", "A N N", true, 0, true},
		{text, "a nn", "an n", false, -1, true},
		{text, "a", "b", false, -1, false},
		{text, "B", "a", false, 1, false},
		{text, "a", "ab", false, -1, false},
		{text, "a", "a b", false, -1, false},
		{text, "a\tb", "ab", false, -1, false},
		{text, "a\tb", "a b", false, -1, false},
		{text, "10", "9", false, -1, false},
		{text, "\xff", "z", false, 1, false},
		{text, "É", "é", false, -1, false},
		{text, "Z", "[", false, 1, false},
		{octets, "a", "a", true, 0, true},
		{octets, "a", "A", false, 1, false},
		{octets, "a", " a", false, 1, false},
		{octets, "a b", "ab", false, -1, false},
		{octets, "a  b", "a b", false, -1, false},
		{octets, "a", "a\x00", false, -1, false},
		{octets, "\x80", "\x7f", false, 1, false},
		{integer, "10", "9", false, 1, false},
		{integer, "10", "10", true, 0, true},
		{integer, "-10", "-9", false, -1, false},
		{integer, "-1", "1", false, -1, false},
		{integer, "0", "-1", false, 1, false},
		{integer, "999999999999999999", "999999999999999998", false, 1, false},
		{integer, "-999999999999999999", "999999999999999999", false, -1, false},
		{plane, "3+4i", "5", false, -1, true},
		{plane, "3+4i", "3+4i", true, 0, true},
		{plane, "-5", "3+4i", false, -1, true},
		{plane, "i", "-i", false, 1, true},
		{plane, "10", "9", false, 1, false},
		{plane, "-10", "9", false, 1, false},
		{plane, "3+4i", "3+5i", false, -1, false},
		{plane, "1000000", "1000000i", false, 1, true},
	} {
		for _, typ := range ofSyntax(c.syntax) {
			for _, turned := range []bool{false, true} {
				a, b, order := c.a, c.b, c.order
				if turned {
					a, b, order = b, a, -order
				}
				if got, err := rule.Same(typ, a, b); got != c.same || err != api.OK {
					t.Errorf("Same(%s, %q, %q): %v, %v", typ, a, b, got, err)
				}
				if got, err := rule.Compare(typ, a, b); got != order || err != api.OK {
					t.Errorf("Compare(%s, %q, %q): %d, %v", typ, a, b, got, err)
				}
				if got, err := rule.Near(typ, a, b); got != c.near || err != api.OK {
					t.Errorf("Near(%s, %q, %q): %v, %v", typ, a, b, got, err)
				}
			}
		}
	}
}

// holdPair holds the three calls to what the chapter says of two values with
// normal forms, by a model of its own.
func holdPair(t *testing.T, typ, a, b string, order int, near bool) {
	t.Helper()
	same, e := rule.Same(typ, a, b)
	gotOrder, f := rule.Compare(typ, a, b)
	gotNear, g := rule.Near(typ, a, b)
	if same != (order == 0) || gotOrder != order || gotNear != near || e != api.OK || f != api.OK || g != api.OK {
		t.Errorf("%s of %q, %q: %v %v, %d %v, %v %v; not %d, %v", typ, a, b, same, e, gotOrder, f, gotNear, g, order, near)
	}
}

// P4.1, P4.2: all pairs of short texts, held against their normal forms.
func TestPairsOfTexts(t *testing.T) {
	var list []string
	eachString([]string{" ", "a", "B", "\xc9"}, 4, func(s string) {
		if _, ok := normalText(s); ok {
			list = append(list, s)
		}
	})
	for _, a := range list {
		for _, b := range list {
			m, _ := normalText(a)
			n, _ := normalText(b)
			holdPair(t, "description", a, b, strings.Compare(m, n), strings.ReplaceAll(m, " ", "") == strings.ReplaceAll(n, " ", ""))
			holdPair(t, "ref", a, b, strings.Compare(a, b), a == b)
		}
	}
}

// P4.1, P4.2: integers, held against the library's of any length.
func TestPairsOfIntegers(t *testing.T) {
	r := rand.New(rand.NewSource(4))
	list := []string{"0", "1", "-1", "9", "10", "-9", "-10", "99", "100", "999999999999999999", "-999999999999999999", "100000000000000000", "99999999999999999"}
	for range 150 {
		n := r.Int63n(1_000_000_000_000_000_000) >> r.Intn(60)
		list = append(list, big.NewInt(n).String(), big.NewInt(-n).String())
	}
	for _, a := range list {
		for _, b := range list {
			m, _ := new(big.Int).SetString(a, 10)
			n, _ := new(big.Int).SetString(b, 10)
			holdPair(t, "serialNumber", a, b, m.Cmp(n), a == b)
		}
	}
}

// P4.2: numbers of the plane by Norm, then by the real, then by the imaginary
// part; near by Norm alone.
func TestPairsOfNumbers(t *testing.T) {
	const most = api.MaxPart
	type point [2]int
	var list []point
	for a := -6; a <= 6; a++ {
		for b := -6; b <= 6; b++ {
			list = append(list, point{a, b})
		}
	}
	list = append(list, point{most, 0}, point{-most, 0}, point{0, most}, point{0, -most}, point{most, most}, point{-most, -most}, point{most, 1 - most})
	norm := func(p point) int { return p[0]*p[0] + p[1]*p[1] }
	for _, p := range list {
		for _, q := range list {
			a, _ := phasor.Print(complex(float64(p[0]), float64(p[1])))
			b, _ := phasor.Print(complex(float64(q[0]), float64(q[1])))
			order := cmp.Or(cmp.Compare(norm(p), norm(q)), cmp.Compare(p[0], q[0]), cmp.Compare(p[1], q[1]))
			holdPair(t, "position", a, b, order, norm(p) == norm(q))
		}
	}
}

// P4.3: a normal form is its own, and a value is like it.
func TestNormalOfNormal(t *testing.T) {
	hold := func(typ, value string) {
		normal, err := rule.Normal(typ, value)
		if err != api.OK {
			return
		}
		if again, err := rule.Normal(typ, normal); again != normal || err != api.OK {
			t.Errorf("%s: Normal of %q: %q; of that: %q, %v", typ, value, normal, again, err)
		}
		if same, err := rule.Same(typ, value, normal); !same || err != api.OK {
			t.Errorf("%s: Same of %q, %q: %v, %v", typ, value, normal, same, err)
		}
	}
	for typ := range syntaxes() {
		for _, value := range someValues() {
			hold(typ, value)
		}
		eachString([]string{" ", "a", "B", "1", "-", "i", "\xc9"}, 4, func(s string) { hold(typ, s) })
	}
	r := rand.New(rand.NewSource(4))
	for range 20000 {
		b := make([]byte, 1+r.Intn(api.MaxValue))
		for i := range b {
			b[i] = " abYZ\t\xff0"[r.Intn(8)]
		}
		hold("cn", string(b))
		hold("userPassword", string(b))
	}
}

// R1, R2: whatever comes, each call ends, and answers the same again.
func TestAgain(t *testing.T) {
	type answers struct {
		typ, normal string
		syntax      int
		same, near  bool
		order       int
		errs        [4]api.Errno
	}
	ask := func(typ, a, b string) (x answers) {
		x.typ, x.syntax = rule.Type(typ)
		x.normal, x.errs[0] = rule.Normal(typ, a)
		x.same, x.errs[1] = rule.Same(typ, a, b)
		x.order, x.errs[2] = rule.Compare(typ, a, b)
		x.near, x.errs[3] = rule.Near(typ, a, b)
		return x
	}
	types := []string{"", "x", "CN", "uid", "userpassword", "SerialNumber", "position", "member", "\xff", strings.Repeat("x", 1<<20)}
	values := someValues()
	var first []answers
	for range 2 {
		var now []answers
		for _, typ := range types {
			for i, a := range values {
				now = append(now, ask(typ, a, values[len(values)-1-i]), ask(typ, a, a))
			}
		}
		for i := range first {
			if now[i] != first[i] {
				t.Errorf("%v, then %v", first[i], now[i])
			}
		}
		first = now
	}
}

// R3: an answer shares no memory with what was handed in, which stays as it is.
func TestMemory(t *testing.T) {
	for typ, value := range map[string]string{"cn": "ann lee", "mail": " Ann", "userPassword": "a b", "ref": "x", "serialNumber": "-12", "position": "3+4i"} {
		room := []byte("##" + value + "##")
		before := string(room)
		given := unsafe.String(&room[2], len(value))
		normal, err := rule.Normal(typ, given)
		want := strings.Clone(normal)
		rule.Same(typ, given, given)
		rule.Compare(typ, given, given)
		rule.Near(typ, given, given)
		if string(room) != before || err != api.OK {
			t.Errorf("%s: %q, %v", typ, room, err)
		}
		for i := range room {
			room[i] = '!'
		}
		if normal != want {
			t.Errorf("%s: the argument written over: %q", typ, normal)
		}
	}
	room := []byte("objectClass")
	typ, _ := rule.Type(unsafe.String(&room[0], len(room)))
	room[0] = '!'
	if typ != "objectClass" {
		t.Errorf("Type: the argument written over: %q", typ)
	}
}
