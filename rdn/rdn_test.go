package rdn_test

import (
	"math/rand"
	"regexp"
	"slices"
	"strconv"
	"strings"
	"testing"
	"unsafe"

	"verger/api"
	"verger/rdn"
	"verger/rule"
)

// The types that parts may have, and those that are types, but no part's.
func texts() []string {
	return []string{"cn", "dc", "description", "mail", "o", "objectClass", "ou", "uid"}
}

func integers() []string { return []string{"serialNumber"} }

func others() []string {
	return []string{"userPassword", "ref", "position", "aliasedObjectName", "member"}
}

// part makes a list of pairs from types and values in turn.
func part(words ...string) []rdn.AVA {
	var list []rdn.AVA
	for i := 0; i < len(words); i += 2 {
		list = append(list, rdn.AVA{Type: words[i], Value: words[i+1]})
	}
	return list
}

// eachString calls see with every text of at most most of the pieces.
func eachString(pieces []string, most int, see func(string)) {
	var grow func(s string, left int)
	grow = func(s string, left int) {
		see(s)
		if left == 0 {
			return
		}
		for _, p := range pieces {
			grow(s+p, left-1)
		}
	}
	grow("", most)
}

// holdPart holds Formed, Print, Parse and Normal to a part and its text.
func holdPart(t *testing.T, text string, list []rdn.AVA) {
	t.Helper()
	if !rdn.Formed(list) {
		t.Errorf("Formed(%.60q): false", list)
	}
	if got, err := rdn.Print(list); got != text || err != api.OK {
		t.Errorf("Print(%.60q): %.60q, %v; not %.60q", list, got, err, text)
	}
	if got, err := rdn.Normal(list); len(got) != len(list) || err != api.OK {
		t.Errorf("Normal(%.60q): %.60q, %v", list, got, err)
	}
	holdParse(t, text, list)
}

// holdNoPart holds Formed, Print and Normal to a list that is no part.
func holdNoPart(t *testing.T, list []rdn.AVA) {
	t.Helper()
	if rdn.Formed(list) {
		t.Errorf("Formed(%.60q): true", list)
	}
	if got, err := rdn.Print(list); got != "" || err != api.ErrArg {
		t.Errorf("Print(%.60q): %.60q, %v", list, got, err)
	}
	if got, err := rdn.Normal(list); len(got) != 0 || err != api.ErrArg {
		t.Errorf("Normal(%.60q): %.60q, %v", list, got, err)
	}
}

// holdParse holds Parse to a part.
func holdParse(t *testing.T, text string, want []rdn.AVA) {
	t.Helper()
	if got, err := rdn.Parse(text); !slices.Equal(got, want) || err != api.OK {
		t.Errorf("Parse(%.60q): %.60q, %v; not %.60q", text, got, err, want)
	}
}

// holdNoText holds Parse to what is no part's text.
func holdNoText(t *testing.T, text string) {
	t.Helper()
	if got, err := rdn.Parse(text); len(got) != 0 || err != api.ErrForm {
		t.Errorf("Parse(%.60q): %.60q, %v", text, got, err)
	}
}

// P5.1: the chapter's examples.
func TestExamples(t *testing.T) {
	holdParse(t, "OU=a+CN=b", part("cn", "b", "ou", "a"))
	if text, err := rdn.Print(part("cn", "a,b ")); text != `cn=a\,b\ ` || err != api.OK {
		t.Errorf("Print: %q, %v", text, err)
	}
	holdNoText(t, "cn= a")
}

// P5.1, P5.3: parts of 1 to MaxAVAs pairs, and their texts.
func TestParts(t *testing.T) {
	holdPart(t, "cn=a", part("cn", "a"))
	holdPart(t, "cn=Ann  Lee", part("cn", "Ann  Lee"))
	holdPart(t, "cn=b+ou=a", part("cn", "b", "ou", "a"))
	holdPart(t, "cn=b+ou=a+uid=a", part("cn", "b", "ou", "a", "uid", "a"))
	holdPart(t, "objectClass=a+ou=b", part("objectClass", "a", "ou", "b"))
	holdPart(t, "o=a+objectClass=b+ou=c", part("o", "a", "objectClass", "b", "ou", "c"))
	holdPart(t, "mail=x@y.z+objectClass=Top", part("mail", "x@y.z", "objectClass", "Top"))
	holdPart(t, "dc=a+description=A", part("dc", "a", "description", "A"))
	holdPart(t, "ou=a+serialNumber=0+uid=b", part("ou", "a", "serialNumber", "0", "uid", "b"))
	for _, typ := range texts() {
		holdPart(t, typ+"=A b", part(typ, "A b"))
	}
	for _, typ := range integers() {
		for _, value := range []string{"0", "-7", "10", strings.Repeat("9", 18), "-" + strings.Repeat("9", 18)} {
			holdPart(t, typ+"="+value, part(typ, value))
		}
	}
}

// P5.1, P5.3: how values are written.
func TestValues(t *testing.T) {
	for _, c := range [][2]string{
		{"=", "="}, {"a=b=", "a=b="}, {"#", `\#`}, {"##", `\##`}, {"a#", "a#"}, {" #", `\ #`}, {"# ", `\#\ `},
		{" a", `\ a`}, {"a ", `a\ `}, {"  a  ", `\  a \ `}, {"a b", "a b"}, {"a   b", "a   b"},
		{`,+"\<>;`, `\,\+\"\\\<\>\;`}, {"a,b,", `a\,b\,`}, {"a+ou=b", `a\+ou=b`},
		{`\`, `\\`}, {`\\`, `\\\\`}, {`\ `, `\\\ `}, {` \`, `\ \\`}, {`\20`, `\\20`}, {`\,`, `\\\,`},
		{"\x01\x1f ~\x7f\x80\xff", `\01\1f ~\7f\80\ff`}, {"\t", `\09`}, {"\ta\n", `\09a\0a`}, {"\x1b", `\1b`},
		{"É€", `\c3\89\e2\82\ac`}, {"\u00a0", `\c2\a0`},
		{"!$%&'()*-./0:?@A[]^_`a{|}~", "!$%&'()*-./0:?@A[]^_`a{|}~"},
		{strings.Repeat("a", api.MaxValue), strings.Repeat("a", api.MaxValue)},
		{strings.Repeat("\xff", api.MaxValue), strings.Repeat(`\ff`, api.MaxValue)},
		{strings.Repeat(" ", api.MaxValue-1) + "a", `\` + strings.Repeat(" ", api.MaxValue-1) + "a"},
	} {
		for _, typ := range texts() {
			holdPart(t, typ+"="+c[1], part(typ, c[0]))
		}
		holdPart(t, "cn="+c[1]+"+ou="+c[1]+"+uid=x", part("cn", c[0], "ou", c[0], "uid", "x"))
	}
}

// P5.1: what is no part by its length, its types or their order.
func TestNoParts(t *testing.T) {
	holdNoPart(t, nil)
	holdNoPart(t, []rdn.AVA{})
	holdNoPart(t, part("cn", "a", "dc", "a", "o", "a", "ou", "a"))
	holdNoPart(t, part("ou", "a", "cn", "a"))
	holdNoPart(t, part("cn", "a", "uid", "a", "ou", "a"))
	holdNoPart(t, part("ou", "a", "o", "a"))
	holdNoPart(t, part("objectClass", "a", "o", "a"))
	holdNoPart(t, part("ou", "a", "objectClass", "a"))
	holdNoPart(t, part("cn", "a", "cn", "b"))
	holdNoPart(t, part("cn", "a", "cn", "a"))
	holdNoPart(t, part("cn", "a", "ou", "b", "ou", "c"))
	holdNoPart(t, make([]rdn.AVA, 1))
	holdNoPart(t, make([]rdn.AVA, 3))
	holdNoPart(t, make([]rdn.AVA, 100000))
	for _, typ := range others() {
		for _, value := range []string{"a", "1", "i", "cn=a"} {
			holdNoPart(t, part(typ, value))
		}
	}
	for _, typ := range []string{"", " ", "x", "sn", "c", "cn ", " cn", "cn=", "c\x00n", "2.5.4.3", "cn;lang-en", "\xff", strings.Repeat("cn", 100000)} {
		holdNoPart(t, part(typ, "a"))
		holdNoPart(t, part("cn", "a", typ, "a"))
	}
}

// P5.1, P5.3: a part's types are named as layer 4 names them, for a text that
// has these names is read as these.
func TestNoPartsByCase(t *testing.T) {
	for _, typ := range append(texts(), integers()...) {
		for _, s := range []string{strings.ToUpper(typ), strings.ToLower(typ), strings.ToUpper(typ[:1]) + typ[1:]} {
			if s == typ {
				continue
			}
			holdNoPart(t, part(s, "1"))
			holdNoPart(t, part(s, "1", "uid", "a"))
			holdNoPart(t, part("cn", "a", s, "1"))
		}
	}
	holdNoPart(t, part("CN", "a", "cn", "a"))
	holdNoPart(t, part("CN", "a", "OU", "a"))
}

// P5.1: each pair's value has a normal form.
func TestNoPartsByValue(t *testing.T) {
	for _, value := range []string{"", " ", "   ", "\x00", "a\x00", "\x00a", "a\x00b", strings.Repeat(" ", api.MaxValue), strings.Repeat("a", api.MaxValue+1), strings.Repeat("a", 1000000)} {
		for _, typ := range append(texts(), integers()...) {
			holdNoPart(t, part(typ, value))
		}
		holdNoPart(t, part("cn", value, "ou", "a"))
		holdNoPart(t, part("cn", "a", "ou", value))
		holdNoPart(t, part("cn", "a", "ou", "a", "uid", value))
	}
	for _, value := range []string{"a", "-0", "01", "+1", " 1", "1 ", "1.0", "-", strings.Repeat("9", 19)} {
		for _, typ := range integers() {
			holdNoPart(t, part(typ, value))
			holdNoPart(t, part("cn", "a", typ, value))
		}
	}
}

// P5.1: texts that may be read, though Print writes others.
func TestParseOfOtherTexts(t *testing.T) {
	for text, list := range map[string][]rdn.AVA{
		"CN=a":                             part("cn", "a"),
		"Cn=A+oU=b":                        part("cn", "A", "ou", "b"),
		"OBJECTCLASS=a":                    part("objectClass", "a"),
		"objectclass=a+o=b":                part("o", "b", "objectClass", "a"),
		"SerialNumber=1+MAIL=a":            part("mail", "a", "serialNumber", "1"),
		"uid=a+ou=b+cn=c":                  part("cn", "c", "ou", "b", "uid", "a"),
		"ou=b+uid=a+cn=c":                  part("cn", "c", "ou", "b", "uid", "a"),
		`cn=\=`:                            part("cn", "="),
		`cn=a\=b`:                          part("cn", "a=b"),
		`cn=a\#\ b`:                        part("cn", "a# b"),
		`cn=\#\#`:                          part("cn", "##"),
		`cn=\20a\20`:                       part("cn", " a "),
		`cn=\23a`:                          part("cn", "#a"),
		`cn=\41\6a\6A\C3\c3\fF`:            part("cn", "Ajj\xc3\xc3\xff"),
		`cn=\2c\2B\22\5C\3c\3e\3b`:         part("cn", `,+"\<>;`),
		`cn=\5c20`:                         part("cn", `\20`),
		`cn=\5c\,`:                         part("cn", `\,`),
		`cn=\0a\7f`:                        part("cn", "\n\x7f"),
		`cn=\abc`:                          part("cn", "\xabc"),
		"cn=\t":                            part("cn", "\t"),
		"cn=\ta\n":                         part("cn", "\ta\n"),
		"cn=\x01\x1f\x7f\x80\xff":          part("cn", "\x01\x1f\x7f\x80\xff"),
		"cn=É€":                            part("cn", "É€"),
		`serialNumber=\31\30`:              part("serialNumber", "10"),
		`serialNumber=\2d1`:                part("serialNumber", "-1"),
		`ou=\+cn\=a+cn=b`:                  part("cn", "b", "ou", "+cn=a"),
		`ou=a\\+cn=b`:                      part("cn", "b", "ou", `a\`),
		"cn=" + strings.Repeat(`\61`, 200): part("cn", strings.Repeat("a", 200)),
	} {
		holdParse(t, text, list)
	}
}

// P5.1: what is no part's text.
func TestParseOfNoTexts(t *testing.T) {
	for _, text := range []string{
		"", " ", "+", "++", "=", "==", "a", "cn", "cn=", "=a", "cn=+", "+cn=a", "cn=a+", "cn=a++ou=b", "cn=+ou=a", "cn+ou=a", "cn=a+ou",
		" cn=a", "cn =a", "cn= a", "cn=a ", "cn= ", "cn=  a", "cn=a  ", "cn=a +ou=b", "cn=a+ ou=b", "cn= a+ou=b", "cn=a+ou= b", "cn=a+ou=b ", "\tcn=a",
		`cn=\20 `, `cn=a\ ` + " ", ` \ cn=a`, `cn= \ a`, `cn=a\\ `, `cn=\\ `,
		"cn=#", "cn=#a", "cn=#04024869", "cn=a+ou=#b", "cn=##",
		"cn=,", "cn=a,b", "cn=a,", "cn=a,dc=x", `cn="a"`, `cn=a"`, "cn=<", "cn=a>b", "cn=;", "cn=a;dc=x",
		`cn=\`, `cn=a\`, `cn=\\\`, `cn=\2`, `cn=\g0`, `cn=\0g`, `cn=\a`, `cn=\aa\a`, `cn=\-1`, `cn=\_1`, `cn=\0x41`, `cn=\!`, `cn=\n`, `cn=\*`, `cn=\2+ou=a`, `cn=\` + "\x00", `cn=\ä`,
		"cn=\x00", "cn=a\x00b", `cn=\00`, `cn=a\00`,
		`cn=\20`, `cn=\ `, `cn=\ \20`,
		"sn=a", "x=a", "cnn=a", "2.5.4.3=a", "OID.cn=a", "c\\n=a", `\63n=a`, "cn\\=a", "userPassword=a", "ref=a", "position=i", "position=1", "member=cn\\=a", "member=cn=a", "aliasedObjectName=cn=a",
		"cn=a+cn=b", "cn=a+CN=a", "cn=a+ou=b+cn=a", "cn=a+dc=b+ou=c+uid=d", "cn=a+sn=b", "cn=a+userPassword=b",
		"serialNumber=a", "serialNumber=01", "serialNumber=-0", "serialNumber=", `serialNumber=\2b1`, "serialNumber=" + strings.Repeat("9", 19),
		"cn=" + strings.Repeat("a", api.MaxValue+1), "cn=" + strings.Repeat(`\61`, api.MaxValue+1), "cn=" + strings.Repeat("a", 1000000),
		strings.Repeat("+", 1000000), strings.Repeat("cn=a+", 1000000), strings.Repeat(`\`, 1000001), strings.Repeat(" ", 1000000), "cn=a" + strings.Repeat(" ", 1000000),
	} {
		holdNoText(t, text)
	}
}

// P5.1: each byte, at each place of a value, written, escaped and in digits.
func TestEachByte(t *testing.T) {
	for n := range 256 {
		c := string([]byte{byte(n)})
		digits := strconv.FormatInt(int64(n)+256, 16)[1:]
		for _, ends := range [][2]string{{"x", "x"}, {"", "x"}, {"x", ""}} {
			first, last := ends[0], ends[1]
			atEnd := first == "" || last == ""
			want := part("cn", first+c+last)
			bare, escaped, hex := "cn="+first+c+last, "cn="+first+`\`+c+last, "cn="+first+`\`+digits+last
			written := bare
			switch {
			case n == 0:
				holdNoPart(t, want)
				holdNoText(t, bare)
				holdNoText(t, escaped)
				holdNoText(t, hex)
				continue
			case n < 32 || n > 126:
				written = hex
				holdParse(t, bare, want)
				holdNoText(t, escaped)
			case strings.Contains(`,+"\<>;`, c), c == " " && atEnd, c == "#" && first == "":
				written = escaped
				holdNoText(t, bare)
			case strings.Contains("#= ", c):
				holdParse(t, escaped, want)
			default:
				holdNoText(t, escaped)
			}
			holdPart(t, written, want)
			holdParse(t, hex, want)
			holdParse(t, "cn="+first+`\`+strings.ToUpper(digits)+last, want)
		}
	}
}

// P5.1: of all pairs of bytes behind the escape, two hexadecimal digits are a
// byte.
func TestAllDigits(t *testing.T) {
	for n := range 1 << 16 {
		two := string([]byte{byte(n >> 8), byte(n)})
		text := `cn=x\` + two + "x"
		got, err := rdn.Parse(text)
		switch c, bad := strconv.ParseUint(two, 16, 8); {
		case bad == nil && c != 0:
			if !slices.Equal(got, part("cn", "x"+string([]byte{byte(c)})+"x")) || err != api.OK {
				t.Errorf("Parse(%q): %q, %v", text, got, err)
			}
		case !strings.Contains(`,+"\<>;#= `, two[:1]):
			if len(got) != 0 || err != api.ErrForm {
				t.Errorf("Parse(%q): %q, %v", text, got, err)
			}
		}
	}
}

// What the chapter says of texts that are read, for texts in ASCII.
const (
	anEscape = `\\(?:[,+"\\<>;#= ]|[0-9A-Fa-f]{2})`
	aValue   = `(?:(?:[^,+"\\<>;\x00 #]|` + anEscape + `)(?:(?:[^,+"\\<>;\x00]|` + anEscape + `)*(?:[^,+"\\<>;\x00 ]|` + anEscape + `))?)`
	aPair    = `([A-Za-z]+)=(` + aValue + `)`
)

var (
	theEscapes = regexp.MustCompile(anEscape)
	thePairs   = regexp.MustCompile(aPair)
	theTexts   = regexp.MustCompile(`^` + aPair + `(?:\+` + aPair + `){0,2}$`)
)

// modelParse reads a text by these forms.
func modelParse(s string) ([]rdn.AVA, bool) {
	if !theTexts.MatchString(s) {
		return nil, false
	}
	var list []rdn.AVA
	for _, pair := range thePairs.FindAllStringSubmatch(s, -1) {
		value := theEscapes.ReplaceAllStringFunc(pair[2], func(e string) string {
			if c, err := strconv.ParseUint(e[1:], 16, 8); err == nil && len(e) == 3 {
				return string([]byte{byte(c)})
			}
			return e[1:]
		})
		name, syntax := rule.Type(pair[1])
		_, err := rule.Normal(name, value)
		twice := slices.ContainsFunc(list, func(a rdn.AVA) bool { return a.Type == name })
		if err != api.OK || syntax == 2 || syntax == 4 || twice {
			return nil, false
		}
		list = append(list, rdn.AVA{Type: name, Value: value})
	}
	slices.SortFunc(list, func(a, b rdn.AVA) int { return strings.Compare(a.Type, b.Type) })
	return list, true
}

// holdModel holds Parse to what modelParse reads.
func holdModel(t *testing.T, text string) {
	t.Helper()
	if want, ok := modelParse(text); ok {
		holdParse(t, text, want)
	} else {
		holdNoText(t, text)
	}
}

// P5.1: every short text is read as the chapter's words say.
func TestParseOfAllShort(t *testing.T) {
	pieces := []string{"a", " ", "#", `\`, "+", "=", "2", ",", "cn", "Ou="}
	eachString(pieces, 5, func(s string) { holdModel(t, s) })
	eachString(pieces, 5, func(s string) { holdModel(t, "cn="+s) })
	eachString([]string{"uid=", "ref=", "O=", "objectclass=", "+", "a", "0"}, 6, func(s string) { holdModel(t, s) })
}

// P5.1: so are longer ones.
func TestParseOfMany(t *testing.T) {
	r := rand.New(rand.NewSource(5))
	pieces := []string{"a", "B", " ", "  ", "#", `\`, `\\`, `\ `, `\+`, `\,`, `\2c`, `\2C`, `\4`, "+ou=", "+uid=", "+O=", "=", "x", "7", "-", "~", "\t", "|"}
	for range 100000 {
		text := []string{"cn=", "CN=", "serialNumber=", "mail="}[r.Intn(4)]
		for range r.Intn(9) {
			text += pieces[r.Intn(len(pieces))]
		}
		holdModel(t, text)
	}
}

// P5.3: Parse undoes Print, also what Print writes of Normal's parts.
func TestParseUndoesPrint(t *testing.T) {
	r := rand.New(rand.NewSource(5))
	types := append(texts(), integers()...)
	count := 0
	for range 50000 {
		var list []rdn.AVA
		for range 1 + r.Intn(api.MaxAVAs) {
			b := make([]byte, 1+r.Intn(5))
			for i := range b {
				b[i] = " #\\,+\"<>;=aZ012\x00\x01\x1f\x7f\x80\xff~"[r.Intn(22)]
			}
			list = append(list, rdn.AVA{Type: types[r.Intn(len(types))], Value: string(b)})
		}
		text, err := rdn.Print(list)
		if rdn.Formed(list) != (err == api.OK) {
			t.Errorf("%q: Formed and Print: %v", list, err)
		}
		if err != api.OK {
			continue
		}
		count++
		holdPart(t, text, list)
		normal, _ := rdn.Normal(list)
		text, _ = rdn.Print(normal)
		holdPart(t, text, normal)
		for i := range len(text) {
			if text[i] < 32 || text[i] > 126 {
				t.Errorf("Print(%q): %q", normal, text)
			}
		}
	}
	if count < 10000 {
		t.Errorf("just %d parts", count)
	}
}

// P5.1: the part with the values' normal forms.
func TestNormal(t *testing.T) {
	for _, c := range [][2][]rdn.AVA{
		{part("cn", "a"), part("cn", "a")},
		{part("cn", " Ann  LEE "), part("cn", "ann lee")},
		{part("cn", "A", "ou", "B  C", "serialNumber", "-10"), part("cn", "a", "ou", "b c", "serialNumber", "-10")},
		{part("objectClass", "Top"), part("objectClass", "top")},
		{part("cn", " #A, "), part("cn", "#a,")},
		{part("cn", "É\xff"), part("cn", "É\xff")},
		{part("cn", "\tA"), part("cn", "\ta")},
		{part("cn", strings.Repeat(" ", api.MaxValue-1)+"Z"), part("cn", "z")},
	} {
		if got, err := rdn.Normal(c[0]); !slices.Equal(got, c[1]) || err != api.OK {
			t.Errorf("Normal(%.60q): %q, %v", c[0], got, err)
		}
		if got, err := rdn.Normal(c[1]); !slices.Equal(got, c[1]) || err != api.OK {
			t.Errorf("Normal(%.60q): %q, %v", c[1], got, err)
		}
	}
}

// P5.2: texts, what they are split by, and their pieces.
func TestSplit(t *testing.T) {
	for _, c := range []struct {
		s    string
		sep  byte
		want []string
	}{
		{"", ',', []string{""}},
		{",", ',', []string{"", ""}},
		{",,", ',', []string{"", "", ""}},
		{"a", ',', []string{"a"}},
		{"a,b", ',', []string{"a", "b"}},
		{"a,b,", ',', []string{"a", "b", ""}},
		{",a", ',', []string{"", "a"}},
		{"a,b", '+', []string{"a,b"}},
		{"a, b ", ',', []string{"a", " b "}},
		{`a\,b`, ',', []string{`a\,b`}},
		{`a\\,b`, ',', []string{`a\\`, "b"}},
		{`a\\\,b`, ',', []string{`a\\\,b`}},
		{`a\\\\,b`, ',', []string{`a\\\\`, "b"}},
		{`\,,\,`, ',', []string{`\,`, `\,`}},
		{`\a,b`, ',', []string{`\a`, "b"}},
		{`\2,b`, ',', []string{`\2`, "b"}},
		{`\2c,b`, ',', []string{`\2c`, "b"}},
		{`a,\`, ',', []string{"a", `\`}},
		{`\`, ',', []string{`\`}},
		{`\`, '\\', []string{"", ""}},
		{`a\b`, '\\', []string{"a", "b"}},
		{`a\\b`, '\\', []string{"a", `\b`}},
		{`\\\`, '\\', []string{"", `\`, ""}},
		{`\\\\`, '\\', []string{"", `\`, `\`}},
		{"cn=a+ou=b,dc=x", ',', []string{"cn=a+ou=b", "dc=x"}},
		{"cn=a+ou=b,dc=x", '+', []string{"cn=a", "ou=b,dc=x"}},
		{"a\x00b\xffc", 0, []string{"a", "b\xffc"}},
		{"a\x00b\xffc", 0xff, []string{"a\x00b", "c"}},
		{"é", 0xa9, []string{"\xc3", ""}},
		{`"a,b"`, ',', []string{`"a`, `b"`}},
	} {
		if got := rdn.Split(c.s, c.sep); !slices.Equal(got, c.want) {
			t.Errorf("Split(%q, %q): %q; not %q", c.s, c.sep, got, c.want)
		}
	}
	if n := len(rdn.Split(strings.Repeat(",", 1000000), ',')); n != 1000001 {
		t.Errorf("Split: %d pieces", n)
	}
}

// escaped tells whether the byte at a place of s is behind an odd number of
// escapes that stand just ahead of it.
func escaped(s string, at int) bool {
	bare := strings.TrimRight(s[:at], `\`)
	return (at-len(bare))%2 == 1
}

// P5.2: every short text, split by bytes in it and by others.
func TestSplitOfAllShort(t *testing.T) {
	eachString([]string{"a", ",", "+", `\`, `\\`}, 6, func(s string) {
		for _, sep := range []byte(`,+\a;`) {
			var want []string
			start := 0
			for i := range len(s) {
				if s[i] == sep && !escaped(s, i) {
					want = append(want, s[start:i])
					start = i + 1
				}
			}
			want = append(want, s[start:])
			if got := rdn.Split(s, sep); !slices.Equal(got, want) {
				t.Errorf("Split(%q, %q): %q; not %q", s, sep, got, want)
			}
		}
	})
}

// R1, R2: whatever comes, each call ends, and answers the same again.
func TestAgain(t *testing.T) {
	type answers struct {
		formed       bool
		text         string
		list, normal []rdn.AVA
		pieces       []string
		e, f, g      api.Errno
	}
	ask := func(list []rdn.AVA, s string, sep byte) (x answers) {
		x.formed = rdn.Formed(list)
		x.text, x.e = rdn.Print(list)
		x.list, x.f = rdn.Parse(s)
		x.normal, x.g = rdn.Normal(list)
		x.pieces = rdn.Split(s, sep)
		return x
	}
	lists := [][]rdn.AVA{nil, part("cn", "A"), part("ou", "a", "cn", "b"), part("CN", "a"), part("cn", "B ", "serialNumber", "1"), part("x", "y")}
	words := []string{"", "ou=B+cn=a", "cn=a+", `cn=\`, `cn=\ a\2c`, "\xff", "cn=a+ou=b+uid=c", strings.Repeat("\\+", 100000)}
	var first []answers
	for range 2 {
		var now []answers
		for _, list := range lists {
			for _, s := range words {
				for _, sep := range []byte("+,\\a\x00\xff") {
					now = append(now, ask(list, s, sep))
				}
			}
		}
		for i, a := range first {
			b := now[i]
			if a.formed != b.formed || a.text != b.text || a.e != b.e || a.f != b.f || a.g != b.g || !slices.Equal(a.list, b.list) || !slices.Equal(a.normal, b.normal) || !slices.Equal(a.pieces, b.pieces) {
				t.Errorf("%v, then %v", a, b)
			}
		}
		first = now
	}
}

// roomy is a list with spare room, in which other pairs stand.
func roomy(list []rdn.AVA) []rdn.AVA {
	room := slices.Concat(part("uid", "ahead"), list, part("uid", "behind", "ou", "behind"))
	return room[1 : 1+len(list)]
}

// R3: a list that is handed in is left as it is, its spare room too, and no
// answer shares memory with it, or with another answer.
func TestMemoryOfLists(t *testing.T) {
	for _, list := range [][]rdn.AVA{part("cn", " A "), part("cn", "A", "ou", "B"), part("cn", "a", "ou", "b", "uid", "C"), part("ou", "a", "cn", "b"), nil} {
		given := roomy(list)
		before := slices.Clone(given[:cap(given)])
		rdn.Formed(given)
		text, _ := rdn.Print(given)
		normal, _ := rdn.Normal(given)
		parsed, _ := rdn.Parse(text)
		again, _ := rdn.Parse(text)
		if !slices.Equal(given[:cap(given)], before) {
			t.Errorf("%q: changed to %q", before, given[:cap(given)])
		}
		keptNormal, keptAgain := slices.Clone(normal), slices.Clone(again)
		for _, written := range [][]rdn.AVA{given[:cap(given)], parsed[:cap(parsed)]} {
			for i := range written {
				written[i] = rdn.AVA{Type: "!", Value: "!"}
			}
		}
		if !slices.Equal(normal, keptNormal) || !slices.Equal(again, keptAgain) {
			t.Errorf("%q: the argument written over: %q, %q", list, normal, again)
		}
	}
}

// R3: a text that is handed in is left as it is, and no answer shares memory
// with it.
func TestMemoryOfTexts(t *testing.T) {
	room := []byte(`##uid=A b+cn=a\2c#+#member#serialNumber#7 #`)
	before := string(room)
	given := func(from, to int) string { return unsafe.String(&room[from], to-from) }
	at := func(s string) int { return strings.Index(before, s) }
	text := given(2, at("#+#"))
	serial := given(at("serial"), at("#7"))
	list := []rdn.AVA{{Type: given(at("cn="), at("=a")), Value: given(at("a\\2c"), at("#+#"))}, {Type: serial, Value: given(at("7"), at(" #"))}}
	parsed, e := rdn.Parse(text)
	printed, f := rdn.Print(list)
	normal, g := rdn.Normal(list)
	rdn.Formed(list)
	pieces := rdn.Split(text, '+')
	whole := rdn.Split(text, ';')
	if string(room) != before {
		t.Errorf("changed to %q", room)
	}
	for i := range room {
		room[i] = '!'
	}
	if !slices.Equal(parsed, part("cn", "a,", "uid", "A b")) || e != api.OK {
		t.Errorf("Parse: %q, %v", parsed, e)
	}
	if printed != `cn=a\\2c+serialNumber=7` || f != api.OK {
		t.Errorf("Print: %q, %v", printed, f)
	}
	if !slices.Equal(normal, part("cn", `a\2c`, "serialNumber", "7")) || g != api.OK {
		t.Errorf("Normal: %q, %v", normal, g)
	}
	if !slices.Equal(pieces, []string{"uid=A b", `cn=a\2c`}) || !slices.Equal(whole, []string{`uid=A b+cn=a\2c`}) {
		t.Errorf("Split: %q, %q", pieces, whole)
	}
}
