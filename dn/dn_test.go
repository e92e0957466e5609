package dn_test

import (
	"fmt"
	"math/rand"
	"slices"
	"strings"
	"testing"
	"unsafe"

	"verger/api"
	"verger/dn"
	"verger/rdn"
	"verger/rule"
)

// part makes a part from types and values in turn.
func part(words ...string) []rdn.AVA {
	var list []rdn.AVA
	for i := 0; i < len(words); i += 2 {
		list = append(list, rdn.AVA{Type: words[i], Value: words[i+1]})
	}
	return list
}

// name makes a name from its parts, the lowest first.
func name(parts ...[]rdn.AVA) dn.Name {
	return dn.Name{Parts: parts}
}

func sameNames(a, b dn.Name) bool {
	return slices.EqualFunc(a.Parts, b.Parts, slices.Equal[[]rdn.AVA])
}

// long is a part's text of so many bytes; its normal text has as many.
func long(size int) string {
	const most = len("cn=") + api.MaxValue
	switch {
	case size <= most:
		return "cn=" + strings.Repeat("a", size-len("cn="))
	case size <= most+len("+ou=")+api.MaxValue:
		return long(most-1) + "+ou=" + strings.Repeat("a", size-(most-1)-len("+ou="))
	}
	panic("no part is so long")
}

// longName is a name's text of so many bytes, of a few parts.
func longName(size int) string {
	var parts []string
	for size > 400 {
		parts = append(parts, long(200))
		size -= 201
	}
	return strings.Join(append(parts, long(size)), ",")
}

// deep is the text of a name of so many parts.
func deep(count int) string {
	parts := make([]string, count)
	for i := range parts {
		parts[i] = fmt.Sprintf("ou=p%d", i)
	}
	return strings.Join(parts, ",")
}

// noNames are texts that are no names', with Parse's errors.
func noNames() map[string]api.Errno {
	return map[string]api.Errno{
		" ": api.ErrForm, ",": api.ErrForm, "a": api.ErrForm, "=": api.ErrForm, "cn": api.ErrForm, "cn=": api.ErrForm,
		"=a": api.ErrForm, "cn=A, b": api.ErrForm, "cn=a,": api.ErrForm, ",cn=a": api.ErrForm, "cn=a,,dc=x": api.ErrForm,
		"cn=a, dc=x": api.ErrForm, "cn=a ,dc=x": api.ErrForm, "cn=a;dc=x": api.ErrForm, "cn=a,x=b": api.ErrForm,
		"x=a,dc=b": api.ErrForm, "cn=a,cn=": api.ErrForm, "cn=a+cn=b,dc=x": api.ErrForm, "cn=a,dc=x+": api.ErrForm,
		"cn=a+ou=b+o=c+uid=d": api.ErrForm, "cn=a+ou=b,o=c+dc=d+o=e": api.ErrForm, `cn=a\`: api.ErrForm,
		`cn=a,dc=x\`: api.ErrForm, `cn=\4,dc=x`: api.ErrForm, `cn=a\,dc=x\q`: api.ErrForm, "cn=#a": api.ErrForm,
		"dc=x,cn=#a": api.ErrForm, "member=cn,dc=x": api.ErrForm, "userPassword=a": api.ErrForm, "position=i,dc=x": api.ErrForm,
		"serialNumber=07,dc=x": api.ErrForm, "cn=\x00,dc=x": api.ErrForm, `cn=\00,dc=x`: api.ErrForm, `cn=\ ,dc=x`: api.ErrForm,
		"\xff": api.ErrForm, `"cn=a,dc=x"`: api.ErrForm, "cn=" + strings.Repeat("a", api.MaxValue+1): api.ErrForm,
		strings.Repeat("a", api.MaxText): api.ErrForm, strings.Repeat(",", api.MaxRDNs-1): api.ErrForm,
		deep(api.MaxRDNs-1) + ",": api.ErrForm, deep(api.MaxRDNs-1) + ",b": api.ErrForm,
		deep(api.MaxRDNs + 1): api.ErrLong, deep(api.MaxRDNs) + ",": api.ErrLong, "," + deep(api.MaxRDNs): api.ErrLong,
		strings.Repeat(",", api.MaxRDNs): api.ErrLong, "x," + deep(api.MaxRDNs): api.ErrLong, deep(100): api.ErrLong,
		longName(api.MaxText + 1): api.ErrLong, strings.Repeat("a", api.MaxText+1): api.ErrLong,
		strings.Repeat(",", api.MaxText): api.ErrLong, strings.Repeat("cn=a,", 100000): api.ErrLong,
		strings.Repeat(`\`, 1000000): api.ErrLong,
	}
}

// tooLong are names' texts that have no normal text, since that is too long.
func tooLong() []string {
	raw := strings.Repeat("\xff", api.MaxValue)
	return []string{
		"cn=" + raw + ",cn=" + raw,
		"cn=" + raw + "+ou=" + raw,
		longName(api.MaxText-1-len("cn=a\xff")) + ",cn=a\xff",
		longName(api.MaxText-1-len("cn=\x01")) + ",cn=\x01",
		"cn=\x7f," + longName(api.MaxText-2-len("cn=\x7f")),
	}
}

// P6.1, P6.2: the chapter's examples.
func TestExamples(t *testing.T) {
	if got, err := dn.Normal("CN=A, b"); got != "" || err != api.ErrForm {
		t.Errorf("Normal: %q, %v", got, err)
	}
	if got, err := dn.Normal("CN=Ann,DC=X"); got != "cn=ann,dc=x" || err != api.OK {
		t.Errorf("Normal: %q, %v", got, err)
	}
	if !dn.Under("cn=a,dc=x", "DC=X") {
		t.Error("Under: false")
	}
	if got, err := dn.Move("cn=a,ou=b,dc=x", "ou=b,dc=x", "o=y"); got != "cn=a,o=y" || err != api.OK {
		t.Errorf("Move: %q, %v", got, err)
	}
}

// names are texts with the names that they are read as, the texts that are
// printed of these, and their normal texts.
func names() []struct {
	text            string
	name            dn.Name
	printed, normal string
} {
	return []struct {
		text            string
		name            dn.Name
		printed, normal string
	}{
		{"", name(), "", ""},
		{"dc=x", name(part("dc", "x")), "dc=x", "dc=x"},
		{"DC=X", name(part("dc", "X")), "dc=X", "dc=x"},
		{"cn=a,dc=x", name(part("cn", "a"), part("dc", "x")), "cn=a,dc=x", "cn=a,dc=x"},
		{"dc=x,cn=a", name(part("dc", "x"), part("cn", "a")), "dc=x,cn=a", "dc=x,cn=a"},
		{"cn=a,cn=a", name(part("cn", "a"), part("cn", "a")), "cn=a,cn=a", "cn=a,cn=a"},
		{"CN=Ann,DC=X", name(part("cn", "Ann"), part("dc", "X")), "cn=Ann,dc=X", "cn=ann,dc=x"},
		{"cn=Ann  LEE,o=Y", name(part("cn", "Ann  LEE"), part("o", "Y")), "cn=Ann  LEE,o=Y", "cn=ann lee,o=y"},
		{"OU=B+CN=A,objectclass=Top", name(part("cn", "A", "ou", "B"), part("objectClass", "Top")), "cn=A+ou=B,objectClass=Top", "cn=a+ou=b,objectClass=top"},
		{`cn=a\,b,dc=x`, name(part("cn", "a,b"), part("dc", "x")), `cn=a\,b,dc=x`, `cn=a\,b,dc=x`},
		{`cn=a\2cb,dc=x`, name(part("cn", "a,b"), part("dc", "x")), `cn=a\,b,dc=x`, `cn=a\,b,dc=x`},
		{`cn=a\\,dc=x`, name(part("cn", `a\`), part("dc", "x")), `cn=a\\,dc=x`, `cn=a\\,dc=x`},
		{`cn=a\\\,b,dc=x\,`, name(part("cn", `a\,b`), part("dc", "x,")), `cn=a\\\,b,dc=x\,`, `cn=a\\\,b,dc=x\,`},
		{`cn=\ A\ ,dc=\20x`, name(part("cn", " A "), part("dc", " x")), `cn=\ A\ ,dc=\ x`, `cn=a,dc=x`},
		{`cn=\ \#A,dc=x`, name(part("cn", " #A"), part("dc", "x")), `cn=\ #A,dc=x`, `cn=\#a,dc=x`},
		{`cn=\41\=\#\2B,dc=x`, name(part("cn", "A=#+"), part("dc", "x")), `cn=A=#\+,dc=x`, `cn=a=#\+,dc=x`},
		{"cn=É,dc=\t\x7f", name(part("cn", "É"), part("dc", "\t\x7f")), `cn=\c3\89,dc=\09\7f`, `cn=\c3\89,dc=\09\7f`},
		{`cn=\C3\89`, name(part("cn", "É")), `cn=\c3\89`, `cn=\c3\89`},
		{"uid=a+serialNumber=-7+mail=A@b,o=y", name(part("mail", "A@b", "serialNumber", "-7", "uid", "a"), part("o", "y")), "mail=A@b+serialNumber=-7+uid=a,o=y", "mail=a@b+serialNumber=-7+uid=a,o=y"},
	}
}

// P6.1, P6.3: names' texts are read, printed and made normal.
func TestNames(t *testing.T) {
	for _, c := range names() {
		if got, err := dn.Parse(c.text); !sameNames(got, c.name) || err != api.OK {
			t.Errorf("Parse(%q): %q, %v; not %q", c.text, got, err, c.name)
		}
		if got, err := dn.Print(c.name); got != c.printed || err != api.OK {
			t.Errorf("Print(%q): %q, %v; not %q", c.name, got, err, c.printed)
		}
		if got, err := dn.Parse(c.printed); !sameNames(got, c.name) || err != api.OK {
			t.Errorf("Parse(%q): %q, %v; not %q", c.printed, got, err, c.name)
		}
		for _, s := range []string{c.text, c.printed, c.normal} {
			if got, err := dn.Normal(s); got != c.normal || err != api.OK {
				t.Errorf("Normal(%q): %q, %v; not %q", s, got, err, c.normal)
			}
		}
	}
}

// P6.1: the root has no parts, be the list nil or empty (R4).
func TestRoot(t *testing.T) {
	if n, err := dn.Parse(""); len(n.Parts) != 0 || err != api.OK {
		t.Errorf("Parse: %q, %v", n, err)
	}
	for _, n := range []dn.Name{{}, {Parts: [][]rdn.AVA{}}} {
		if s, err := dn.Print(n); s != "" || err != api.OK {
			t.Errorf("Print: %q, %v", s, err)
		}
	}
	if s, err := dn.Normal(""); s != "" || err != api.OK {
		t.Errorf("Normal: %q, %v", s, err)
	}
}

// P6.1: texts of up to MaxText bytes and MaxRDNs parts are names'.
func TestLimits(t *testing.T) {
	for _, s := range []string{longName(api.MaxText), longName(api.MaxText - 1), deep(api.MaxRDNs), deep(api.MaxRDNs - 1), deep(1), "cn=" + strings.Repeat("a", api.MaxValue)} {
		n, err := dn.Parse(s)
		if err != api.OK || len(n.Parts) != strings.Count(s, ",")+1 {
			t.Errorf("Parse(%.60q): %.60q, %v", s, n, err)
		}
		if got, err := dn.Print(n); got != s || err != api.OK {
			t.Errorf("Print(%.60q): %.60q, %v", s, got, err)
		}
		if got, err := dn.Normal(s); got != s || err != api.OK {
			t.Errorf("Normal(%.60q): %.60q, %v", s, got, err)
		}
		if got := dn.Depth(s); got != len(n.Parts) {
			t.Errorf("Depth(%.60q): %d", s, got)
		}
	}
	if n := len(longName(api.MaxText)); n != api.MaxText {
		t.Errorf("longName: %d bytes", n)
	}
}

// P6.1: texts that are no names'; what is too long is so whatever it is else
// (R6). Beside an error there is no name, and no text (R5).
func TestNoNames(t *testing.T) {
	for s, want := range noNames() {
		if n, err := dn.Parse(s); len(n.Parts) != 0 || err != want {
			t.Errorf("Parse(%.60q): %.60q, %v; not %v", s, n, err, want)
		}
		if got, err := dn.Normal(s); got != "" || err != want {
			t.Errorf("Normal(%.60q): %.60q, %v; not %v", s, got, err, want)
		}
	}
}

// P6.1: names whose normal text is too long; Parse reads them.
func TestNormalTooLong(t *testing.T) {
	for _, s := range tooLong() {
		n, err := dn.Parse(s)
		if err != api.OK || len(s) > api.MaxText {
			t.Errorf("Parse(%.60q): %.60q, %v", s, n, err)
		}
		if got, err := dn.Print(n); got != "" || err != api.ErrLong {
			t.Errorf("Print(%.60q): %.60q, %v", n, got, err)
		}
		if got, err := dn.Normal(s); got != "" || err != api.ErrLong {
			t.Errorf("Normal(%.60q): %.60q, %v", s, got, err)
		}
	}
	// Just as long as may be, though the text read is shorter.
	s := longName(api.MaxText-1-len(`cn=a\ff`)) + ",cn=a\xff"
	if got, err := dn.Normal(s); len(got) != api.MaxText || !strings.HasSuffix(got, `,cn=a\ff`) || err != api.OK {
		t.Errorf("Normal(%.60q): %.60q, %v", s, got, err)
	}
	// Shorter than what was read, that being just as long as may be.
	s = longName(api.MaxText-1-len(`cn=\61\ \ \41`)) + `,cn=\61\ \ \41`
	if got, err := dn.Normal(s); !strings.HasSuffix(got, `a,cn=a a`) || err != api.OK {
		t.Errorf("Normal(%.60q): %.60q, %v", s, got, err)
	}
	// A value's length is asked of what was read.
	s = "cn=" + strings.Repeat("a", api.MaxValue-1) + `\ \ `
	if got, err := dn.Normal(s); got != "" || err != api.ErrForm {
		t.Errorf("Normal(%.60q): %.60q, %v", s, got, err)
	}
}

// P6.1: what Print refuses.
func TestPrintOfNoNames(t *testing.T) {
	good := part("cn", "a")
	for _, bad := range [][]rdn.AVA{nil, {}, part("ou", "a", "cn", "b"), part("CN", "a"), part("cn", ""), part("cn", " "), part("x", "a"), part("member", "cn=a"), part("cn", "a", "cn", "b"), part("cn", "a", "o", "b", "ou", "c", "uid", "d")} {
		for _, n := range []dn.Name{name(bad), name(good, bad), name(bad, good), name(good, bad, good)} {
			if s, err := dn.Print(n); s != "" || err != api.ErrArg {
				t.Errorf("Print(%q): %q, %v", n, s, err)
			}
		}
	}
	parts := slices.Repeat([][]rdn.AVA{good}, api.MaxRDNs+1)
	if s, err := dn.Print(name(parts[1:]...)); s != "cn=a"+strings.Repeat(",cn=a", api.MaxRDNs-1) || err != api.OK {
		t.Errorf("Print of %d parts: %q, %v", api.MaxRDNs, s, err)
	}
	if s, err := dn.Print(name(parts...)); s != "" || err != api.ErrArg {
		t.Errorf("Print of %d parts: %q, %v", api.MaxRDNs+1, s, err)
	}
	if s, err := dn.Print(name(make([][]rdn.AVA, 100000)...)); s != "" || err != api.ErrArg {
		t.Errorf("Print of many: %q, %v", s, err)
	}
}

// P6.1: names of parts, and not too many, but with too long a text.
func TestPrintTooLong(t *testing.T) {
	full := part("cn", strings.Repeat("a", api.MaxValue))
	fill := api.MaxText - 4*len("cn=,") - 4*api.MaxValue - len("ou=")
	for size, want := range map[int]api.Errno{fill: api.OK, fill + 1: api.ErrLong} {
		s, err := dn.Print(name(full, full, full, full, part("ou", strings.Repeat("a", size))))
		if err != want || (err == api.OK) != (len(s) == api.MaxText) || (err != api.OK) != (s == "") {
			t.Errorf("Print with %d bytes: %.60q, %v", size, s, err)
		}
	}
	raw := strings.Repeat("\xff", api.MaxValue)
	if s, err := dn.Print(name(part("cn", raw, "ou", raw))); s != "" || err != api.ErrLong {
		t.Errorf("Print of one long part: %.60q, %v", s, err)
	}
	// What is no name at all is that first.
	for _, n := range []dn.Name{name(part("cn", raw, "ou", raw), nil), name(slices.Repeat([][]rdn.AVA{full}, api.MaxRDNs+1)...)} {
		if s, err := dn.Print(n); s != "" || err != api.ErrArg {
			t.Errorf("Print: %.60q, %v", s, err)
		}
	}
}

// P6.1: Value of all types that aren't names' is as layer 4's Normal.
func TestValueOfOtherTypes(t *testing.T) {
	types := []string{"cn", "CN", "ou", "objectclass", "mail", "userPassword", "REF", "serialNumber", "position", "x", "", "memb", "members", "aliasedObjectName "}
	values := []string{"", " ", "a", " Ann  LEE ", "7", "07", "-0", "3+4i", "3+04i", "cn=A,dc=X", "\x00", "\xff", strings.Repeat("A", api.MaxValue), strings.Repeat("A", api.MaxValue+1)}
	for _, typ := range types {
		for _, value := range values {
			want, wantErr := rule.Normal(typ, value)
			if got, err := dn.Value(typ, value); got != want || err != wantErr {
				t.Errorf("Value(%q, %.60q): %.60q, %v; not %.60q, %v", typ, value, got, err, want, wantErr)
			}
		}
	}
	if _, err := dn.Value("x", "cn=a"); err != api.ErrNone {
		t.Errorf("Value of no type: %v", err)
	}
}

// nameTypes are the types of syntax 5, in several writings.
func nameTypes() []string {
	return []string{"member", "aliasedObjectName", "MEMBER", "ALIASEDobjectNAME", "aliasedobjectname"}
}

// P6.1: Value of the types that are names'.
func TestValueOfNames(t *testing.T) {
	for _, typ := range nameTypes() {
		for _, c := range names()[1:] {
			for _, s := range []string{c.text, c.printed, c.normal} {
				if got, err := dn.Value(typ, s); got != c.normal || err != api.OK {
					t.Errorf("Value(%q, %q): %q, %v; not %q", typ, s, got, err, c.normal)
				}
			}
		}
		for s := range noNames() {
			if got, err := dn.Value(typ, s); got != "" || err != api.ErrForm {
				t.Errorf("Value(%q, %.60q): %.60q, %v", typ, s, got, err)
			}
		}
		// The root is no value.
		if got, err := dn.Value(typ, ""); got != "" || err != api.ErrForm {
			t.Errorf("Value(%q, \"\"): %q, %v", typ, got, err)
		}
	}
}

// holdValue holds Value of all types that are names'; with no text wanted, it
// has to answer ErrForm.
func holdValue(t *testing.T, value, want string) {
	t.Helper()
	wantErr := api.OK
	if want == "" {
		wantErr = api.ErrForm
	}
	for _, typ := range nameTypes() {
		got, err := dn.Value(typ, value)
		holdText(t, fmt.Sprintf("Value(%q, %.60q)", typ, value), got, err, want, wantErr)
	}
}

// P6.1: a name that is a value has at most MaxValue bytes, however few its
// normal text has.
func TestValueLimits(t *testing.T) {
	blanks := strings.Repeat(" ", api.MaxValue-len("CN=ab"))
	coded := strings.Repeat(`\41`, (api.MaxValue-len("cn="))/3)
	holdValue(t, longName(api.MaxValue), longName(api.MaxValue))
	holdValue(t, longName(api.MaxValue+1), "")
	holdValue(t, longName(api.MaxText), "")
	holdValue(t, "dc=x,"+longName(api.MaxValue-5), "dc=x,"+longName(api.MaxValue-5))
	holdValue(t, "dc=x,"+longName(api.MaxValue-4), "")
	holdValue(t, "CN=a"+blanks+"b", "cn=a b")
	holdValue(t, "CN=a "+blanks+"b", "")
	holdValue(t, "cn="+coded+"BC", "cn="+strings.Repeat("a", len(coded)/3)+"bc")
	holdValue(t, "cn="+coded+"BCD", "")
}

// P6.1: a value's normal form is its normal text, be that longer than values
// are; the value alone has at most MaxValue bytes.
func TestValueGrown(t *testing.T) {
	most := api.MaxValue - len("cn=")
	above := "," + deep(api.MaxRDNs-1)
	for _, raw := range []string{"\x01", "\x1f", "\x7f", "\x80", "\xff"} {
		code := fmt.Sprintf(`\%02x`, raw)
		for _, size := range []int{1, 64, 65, 66, 100, most - 1, most} {
			holdValue(t, "OU="+strings.Repeat(raw, size), "ou="+strings.Repeat(code, size))
		}
		for _, size := range []int{most + 1, most + 2, most + 3, most + 4} {
			holdValue(t, "OU="+strings.Repeat(raw, size), "")
		}
		// The normal text has just MaxValue bytes, or one more.
		for _, end := range []string{"zz", "zzz"} {
			holdValue(t, "cn="+strings.Repeat(raw, 65)+end, "cn="+strings.Repeat(code, 65)+end)
		}
		// Of several pairs and parts.
		size := most - len(above)
		holdValue(t, "cn="+strings.Repeat(raw, size)+strings.ToUpper(above), "cn="+strings.Repeat(code, size)+above)
		holdValue(t, "cn="+strings.Repeat(raw, size+1)+strings.ToUpper(above), "")
		holdValue(t, "OU="+strings.Repeat(raw, 90)+"+cn=A,DC="+strings.Repeat(raw, 90), "cn=a+ou="+strings.Repeat(code, 90)+",dc="+strings.Repeat(code, 90))
	}
	// A normal form with more bytes than values have is no value itself.
	holdValue(t, "cn="+strings.Repeat(`\ff`, 65), "cn="+strings.Repeat(`\ff`, 65))
	holdValue(t, "cn="+strings.Repeat(`\ff`, 66), "")
}

// P6.1: many names of all lengths about MaxValue: a value's normal form is as
// Normal tells.
func TestValueMany(t *testing.T) {
	r := rand.New(rand.NewSource(61))
	pieces := []string{"\xff", "\x02", "\x7f", `\fe`, `\,`, `\41`, "A", "z", "b  C"}
	grown, over := 0, 0
	for range 3000 {
		var parts []string
		for range 1 + r.Intn(3) {
			s := "CN=x"
			for range r.Intn(85) {
				s += pieces[r.Intn(len(pieces))]
			}
			parts = append(parts, s)
		}
		s := strings.Join(parts, ",")
		want, err := dn.Normal(s)
		if err != api.OK {
			t.Fatalf("Normal(%q): %v", s, err)
		}
		if len(s) > api.MaxValue {
			want = ""
			over++
		}
		if len(want) > api.MaxValue {
			grown++
		}
		holdValue(t, s, want)
	}
	if grown < 200 || over < 200 {
		t.Errorf("just %d grown, %d too long", grown, over)
	}
}

// P6.2: parents, whole and by normal text.
func TestParent(t *testing.T) {
	for s, want := range map[string]string{
		"dc=x": "", "cn=a,dc=x": "dc=x", "CN=A,OU=B,DC=X": "ou=b,dc=x", `cn=a\,b,DC=X`: "dc=x", "cn=a,cn=a": "cn=a",
		`cn=a\\,OU=C\,D`: `ou=c\,d`, "cn=a+ou=b,UID=C+O=D,dc=x": "o=d+uid=c,dc=x", deep(api.MaxRDNs): deep(api.MaxRDNs)[len("ou=p0,"):],
	} {
		if got, ok := dn.Parent(s); got != want || !ok {
			t.Errorf("Parent(%q): %q, %v; not %q", s, got, ok, want)
		}
	}
	if got, ok := dn.Parent(""); got != "" || ok {
		t.Errorf("Parent of the root: %q, %v", got, ok)
	}
}

// P6.2: depths.
func TestDepth(t *testing.T) {
	for s, want := range map[string]int{"": 0, "dc=x": 1, "cn=a+ou=b": 1, `cn=a\,b`: 1, `cn=a\2cb`: 1, "cn=a,dc=x": 2, `cn=a\\,dc=x`: 2, "cn=a,cn=a,cn=a": 3, deep(api.MaxRDNs): api.MaxRDNs} {
		if got := dn.Depth(s); got != want {
			t.Errorf("Depth(%q): %d, not %d", s, got, want)
		}
	}
}

// P6.2: who is under whom.
func TestUnder(t *testing.T) {
	for _, c := range [][2]string{
		{"", ""}, {"dc=x", ""}, {"cn=a,dc=x", ""}, {"dc=x", "dc=x"}, {"dc=x", "DC=X"}, {"cn=a,dc=x", "dc=x"}, {"CN=A,DC=X", "cn=a,dc=x"},
		{"cn=a,ou=b,dc=x", "dc=x"}, {"cn=a,ou=b,dc=x", "OU=B,dc=x"}, {"cn=a,cn=a,cn=a", "cn=a,cn=a"}, {"uid=c,ou=b+cn=a", "CN=A+OU=B"},
		{`cn=a,cn=\41`, `cn=\ a\ `}, {`ou=z,cn=b\,c`, `cn=b\2Cc`}, {"cn=z,cn=Ann  Lee", "cn=ann lee"}, {deep(api.MaxRDNs), "ou=p11"},
	} {
		if !dn.Under(c[0], c[1]) {
			t.Errorf("Under(%q, %q): false", c[0], c[1])
		}
	}
	for _, c := range [][2]string{
		{"", "dc=x"}, {"dc=x", "cn=a,dc=x"}, {"dc=x", "dc=y"}, {"cn=a,dc=x", "cn=a"}, {"cn=a,dc=x", "dc=y"}, {"dc=x,cn=a", "dc=x"},
		{"cn=a,ou=b,dc=x", "ou=b"}, {"cn=a,ou=b,dc=x", "cn=a,dc=x"}, {"dc=xx", "dc=x"}, {"cn=a,odc=x", "dc=x"}, {"cn=b,cn=ax", "cn=x"},
		{`cn=b\,dc=x`, "dc=x"}, {"cn=a+ou=b", "ou=b"}, {"ou=z,cn=a+ou=b", "ou=b"}, {"cn=a,ou=x", "o=x"}, {"o=a,cn=b", "cn=a"},
	} {
		if dn.Under(c[0], c[1]) {
			t.Errorf("Under(%q, %q): true", c[0], c[1])
		}
	}
}

// P6.2: the order of names: all of the list, each ahead of those behind it.
func TestCompare(t *testing.T) {
	order := []string{
		"", "cn=z", "dc=a", "CN=Z,DC=A", "cn=zz,dc=a", "dc=z,dc=a", "cn=a,dc=z,dc=a", "dc=aa", "cn=a,dc=aa", "DC=B",
		`dc=b\ c`, "cn=a,dc=b c", "dc=ba", "cn=a,dc=ba", "dc=b!", "o=a", "cn=b,o=a", `cn=b\,c,o=a`, "cn=b-,o=a", "cn=ba,o=a",
		"dc=a+cn=b,o=a", "o=a+ou=b", "objectClass=a", "ou=A", "serialNumber=10", "serialNumber=9", "uid=a", "cn=z,uid=a", `uid=\c3`,
	}
	order = bySteps(order)
	for i, a := range order {
		for j, b := range order {
			want := min(1, max(-1, i-j))
			if got := dn.Compare(a, b); got != want {
				t.Errorf("Compare(%q, %q): %d, not %d", a, b, got, want)
			}
		}
	}
	for _, c := range [][2]string{{"CN=A,DC=X", "cn=a,dc=x"}, {"ou=b+cn=a", "cn=a+ou=b"}, {`cn=\41  b`, `cn=a b\ `}, {"", ""}} {
		if got := dn.Compare(c[0], c[1]); got != 0 {
			t.Errorf("Compare(%q, %q): %d", c[0], c[1], got)
		}
	}
	// By parts, and not by the whole texts: "," is behind "!", and ahead of "-".
	for _, c := range [][2]string{{"cn=b,dc=a", "dc=a!"}, {"dc=a", "cn=b,dc=a"}, {"cn=z,dc=a", "cn=a,dc=a-"}, {"cn=b,cn=a", "cn=a,cn=b"}} {
		if dn.Compare(c[0], c[1]) != -1 || dn.Compare(c[1], c[0]) != 1 {
			t.Errorf("Compare(%q, %q): %d, %d", c[0], c[1], dn.Compare(c[0], c[1]), dn.Compare(c[1], c[0]))
		}
	}
}

// bySteps sorts names' texts by a model of the order: the normal parts' texts
// from the highest on, each ended by a byte below all that stand in them.
func bySteps(list []string) []string {
	key := func(s string) string {
		n, _ := dn.Parse(s)
		key := ""
		for _, p := range slices.Backward(n.Parts) {
			normal, _ := rdn.Normal(p)
			text, _ := rdn.Print(normal)
			key += text + "\x00"
		}
		return key
	}
	return slices.SortedFunc(slices.Values(list), func(a, b string) int { return strings.Compare(key(a), key(b)) })
}

// P6.2: texts that are no names', or have no normal text, have no parent, no
// depth, and no place under or beside others.
func TestZeroOfNoNames(t *testing.T) {
	bad := tooLong()
	for s := range noNames() {
		bad = append(bad, s)
	}
	for _, s := range bad {
		if got, ok := dn.Parent(s); got != "" || ok {
			t.Errorf("Parent(%.60q): %.60q, %v", s, got, ok)
		}
		if got := dn.Depth(s); got != 0 {
			t.Errorf("Depth(%.60q): %d", s, got)
		}
		if dn.Under(s, s) || dn.Compare(s, s) != 0 {
			t.Errorf("%.60q beside itself: %v, %d", s, dn.Under(s, s), dn.Compare(s, s))
		}
		for _, good := range []string{"", "cn=a", "dc=x", "cn=a,dc=x", "uid=z"} {
			if dn.Under(s, good) || dn.Under(good, s) {
				t.Errorf("%.60q and %q: under", s, good)
			}
			if dn.Compare(s, good) != 0 || dn.Compare(good, s) != 0 {
				t.Errorf("%.60q and %q: not 0", s, good)
			}
		}
	}
}

// holdText holds an answer to a text, or else to an error beside none.
func holdText(t *testing.T, call, got string, err api.Errno, want string, wantErr api.Errno) {
	t.Helper()
	if got != want || err != wantErr {
		t.Errorf("%.120s: %.60q, %v; not %.60q, %v", call, got, err, want, wantErr)
	}
}

func holdJoin(t *testing.T, part, parent, want string, wantErr api.Errno) {
	t.Helper()
	got, err := dn.Join(part, parent)
	holdText(t, fmt.Sprintf("Join(%.60q, %.60q)", part, parent), got, err, want, wantErr)
}

func holdMove(t *testing.T, s, from, to, want string, wantErr api.Errno) {
	t.Helper()
	got, err := dn.Move(s, from, to)
	holdText(t, fmt.Sprintf("Move(%.40q, %.40q, %.40q)", s, from, to), got, err, want, wantErr)
}

// P6.2: names with a part ahead.
func TestJoin(t *testing.T) {
	holdJoin(t, "cn=a", "", "cn=a", api.OK)
	holdJoin(t, "CN=A", "DC=X", "cn=a,dc=x", api.OK)
	holdJoin(t, "OU=B+CN=A", "cn=z,DC=X", "cn=a+ou=b,cn=z,dc=x", api.OK)
	holdJoin(t, `cn=A\,B`, `cn=A\2cB`, `cn=a\,b,cn=a\,b`, api.OK)
	holdJoin(t, "cn=\xff", "dc=\xc3", `cn=\ff,dc=\c3`, api.OK)
	holdJoin(t, "ou=new", deep(api.MaxRDNs-1), "ou=new,"+deep(api.MaxRDNs-1), api.OK)
	for _, bad := range []string{"", " ", "cn", "cn=", "x=a", "cn=a,dc=x", "cn=a,", ",cn=a", "cn=a+cn=b", "cn= a", `cn=a\`, "member=cn=a", "cn=" + strings.Repeat("a", api.MaxValue+1), strings.Repeat("a", 1000000), strings.Repeat("cn=a,", 300)} {
		holdJoin(t, bad, "", "", api.ErrForm)
		holdJoin(t, bad, "dc=x", "", api.ErrForm)
		// The part is asked first.
		holdJoin(t, bad, "x", "", api.ErrForm)
		holdJoin(t, bad, deep(api.MaxRDNs+1), "", api.ErrForm)
	}
	for s, want := range noNames() {
		holdJoin(t, "cn=a", s, "", want)
	}
	for _, s := range tooLong() {
		holdJoin(t, "cn=a", s, "", api.ErrLong)
	}
}

// P6.2: names that would be too long, and such as just aren't.
func TestJoinTooLong(t *testing.T) {
	holdJoin(t, "cn=a", deep(api.MaxRDNs), "", api.ErrLong)
	holdJoin(t, "cn=a", longName(api.MaxText), "", api.ErrLong)
	holdJoin(t, "cn=a", longName(api.MaxText-4), "", api.ErrLong)
	holdJoin(t, "cn=a", longName(api.MaxText-5), "cn=a,"+longName(api.MaxText-5), api.OK)
	holdJoin(t, "cn=\xff", longName(api.MaxText-7), `cn=\ff,`+longName(api.MaxText-7), api.OK)
	holdJoin(t, "cn=\xff", longName(api.MaxText-6), "", api.ErrLong)
	// The text of a part may itself be longer than a name's.
	raw := strings.Repeat("\xff", api.MaxValue)
	holdJoin(t, "cn="+raw+"+ou="+raw, "", "", api.ErrLong)
	a := strings.Repeat("a", api.MaxValue)
	coded := strings.Repeat(`\41`, api.MaxValue)
	holdJoin(t, "ou="+coded+"+cn="+coded, "DC=X", "cn="+a+"+ou="+a+",dc=x", api.OK)
}

// P6.2: names moved from under one name to under another.
func TestMove(t *testing.T) {
	for _, c := range [][4]string{
		{"", "", "", ""},
		{"", "", "DC=X", "dc=x"},
		{"DC=X", "dc=x", "", ""},
		{"DC=X", "dc=x", "O=Y,dc=z", "o=y,dc=z"},
		{"CN=A,DC=X", "", "", "cn=a,dc=x"},
		{"CN=A,DC=X", "", "o=y", "cn=a,dc=x,o=y"},
		{"CN=A,DC=X", "dc=X", "", "cn=a"},
		{"cn=a,dc=x", "dc=x", "dc=x", "cn=a,dc=x"},
		{"cn=a,ou=b,dc=x", "dc=x", "o=y", "cn=a,ou=b,o=y"},
		{"cn=a,ou=b,dc=x", "dc=x", "ou=b,dc=x", "cn=a,ou=b,ou=b,dc=x"},
		{"cn=a,cn=a,cn=a", "cn=a", "cn=b", "cn=a,cn=a,cn=b"},
		{`cn=a\,b,ou=C\2cD`, `ou=c\,d`, `O=\ E`, `cn=a\,b,o=e`},
		{"uid=a,ou=b+cn=c", "CN=C+OU=B", "uid=d+o=e", "uid=a,o=e+uid=d"},
		{deep(api.MaxRDNs), "ou=p11", "DC=X", strings.Replace(deep(api.MaxRDNs), "ou=p11", "dc=x", 1)},
	} {
		holdMove(t, c[0], c[1], c[2], c[3], api.OK)
	}
	for _, c := range [][2]string{{"", "dc=x"}, {"dc=x", "cn=a,dc=x"}, {"cn=a,dc=x", "cn=a"}, {"cn=a,dc=x", "dc=y"}, {"dc=xx", "dc=x"}} {
		for _, to := range []string{"", "o=y", c[0], deep(api.MaxRDNs), longName(api.MaxText)} {
			holdMove(t, c[0], c[1], to, "", api.ErrArg)
		}
	}
}

// P6.2: what can't be moved, the errors in their order (R6).
func TestMoveOfNoNames(t *testing.T) {
	long := tooLong()[0]
	for s, want := range noNames() {
		for _, other := range []string{"", "dc=x", "x", long} {
			holdMove(t, s, other, other, "", want)
		}
		for _, to := range []string{"", "dc=x", "x", long} {
			holdMove(t, "cn=a,dc=x", s, to, "", want)
		}
		for _, from := range []string{"", "dc=x", "cn=a,dc=x", "dc=other"} {
			holdMove(t, "cn=a,dc=x", from, s, "", want)
		}
	}
	holdMove(t, long, "x", "x", "", api.ErrLong)
	holdMove(t, "x", long, long, "", api.ErrForm)
	holdMove(t, "dc=x", long, "x", "", api.ErrLong)
	holdMove(t, "dc=x", "x", long, "", api.ErrForm)
	holdMove(t, "dc=x", "dc=y", long, "", api.ErrLong)
	holdMove(t, "dc=x", "dc=y", "x", "", api.ErrForm)
}

// P6.2: names that would be too long once moved, and such as just aren't.
func TestMoveTooLong(t *testing.T) {
	holdMove(t, "cn=a,dc=x", "dc=x", deep(api.MaxRDNs), "", api.ErrLong)
	holdMove(t, "cn=a,dc=x", "dc=x", deep(api.MaxRDNs-1), "cn=a,"+deep(api.MaxRDNs-1), api.OK)
	holdMove(t, "cn=a,dc=x", "", deep(api.MaxRDNs-1), "", api.ErrLong)
	holdMove(t, "cn=a,dc=x", "", deep(api.MaxRDNs-2), "cn=a,dc=x,"+deep(api.MaxRDNs-2), api.OK)
	holdMove(t, "cn=a,dc=x", "cn=a,dc=x", deep(api.MaxRDNs), deep(api.MaxRDNs), api.OK)
	holdMove(t, deep(api.MaxRDNs), "ou=p11", "o=a,o=b", "", api.ErrLong)
	holdMove(t, "cn=a,dc=x", "dc=x", longName(api.MaxText-4), "", api.ErrLong)
	holdMove(t, "cn=a,dc=x", "dc=x", longName(api.MaxText-5), "cn=a,"+longName(api.MaxText-5), api.OK)
	holdMove(t, "cn=\xff,dc=x", "dc=x", longName(api.MaxText-7), `cn=\ff,`+longName(api.MaxText-7), api.OK)
	holdMove(t, "cn=\xff,dc=x", "dc=x", longName(api.MaxText-6), "", api.ErrLong)
	holdMove(t, "cn=a,"+longName(api.MaxText-5), longName(api.MaxText-5), "dc=x", "cn=a,dc=x", api.OK)
	holdMove(t, longName(api.MaxText), "", "", longName(api.MaxText), api.OK)
}

// Each name of a random one's: a text, as it may be written, and the normal
// texts of its parts.
type written struct {
	text  string
	parts []string
}

// write makes a random name, of few types and values, so that names meet.
func write(r *rand.Rand) written {
	var w written
	var texts []string
	pick := func(list ...string) string { return list[r.Intn(len(list))] }
	for range r.Intn(5) {
		value, normal := "", ""
		for range 1 + r.Intn(2) {
			switch r.Intn(6) {
			case 0:
				value, normal = value+pick(`\,`, `\2c`, `\2C`), normal+`\,`
			case 1:
				value, normal = value+pick("\xff", `\ff`, `\Ff`), normal+`\ff`
			case 2:
				value, normal = value+pick("b  c", "B C", `b\ \ C`, `\42\20\63`), normal+"b c"
			default:
				value, normal = value+pick("a", "A", `\61`, `\41`), normal+"a"
			}
		}
		value = pick("", "", `\ `, `\20`) + value + pick("", "", ` \ `, `\ `)
		switch r.Intn(4) {
		case 0:
			texts = append(texts, pick("OU=q+cn="+value, "cn="+value+"+ou=Q", `oU=\71+Cn=`+value))
			w.parts = append(w.parts, "cn="+normal+"+ou=q")
		default:
			texts = append(texts, pick("cn=", "CN=", "cN=")+value)
			w.parts = append(w.parts, "cn="+normal)
		}
	}
	w.text = strings.Join(texts, ",")
	return w
}

func (w written) normal() string { return strings.Join(w.parts, ",") }

// P6.1 to P6.3: many names, two and three by each other, against what their
// parts' normal texts tell.
func TestMany(t *testing.T) {
	r := rand.New(rand.NewSource(6))
	met := 0
	for range 30000 {
		a, b, c := write(r), write(r), write(r)
		if r.Intn(3) == 0 {
			// Often the one is under the other, or they have the same parent.
			above := written{parts: a.parts[min(len(a.parts), r.Intn(3)):]}
			b = written{text: strings.ToUpper(above.normal()), parts: above.parts}
		}
		holdOne(t, a)
		under := len(a.parts) >= len(b.parts) && slices.Equal(a.parts[len(a.parts)-len(b.parts):], b.parts)
		if got := dn.Under(a.text, b.text); got != under {
			t.Errorf("Under(%q, %q): %v", a.text, b.text, got)
		}
		want := strings.Compare(key(a), key(b))
		if got := dn.Compare(a.text, b.text); got != want {
			t.Errorf("Compare(%q, %q): %d, not %d", a.text, b.text, got, want)
		}
		// P6.3: names that are under one another are alike.
		if both := dn.Under(a.text, b.text) && dn.Under(b.text, a.text); both != (a.normal() == b.normal()) || both != (want == 0) {
			t.Errorf("%q and %q under one another: %v", a.text, b.text, both)
		}
		if !under {
			holdMove(t, a.text, b.text, c.text, "", api.ErrArg)
			continue
		}
		met++
		moved := slices.Concat(a.parts[:len(a.parts)-len(b.parts)], c.parts)
		holdMove(t, a.text, b.text, c.text, strings.Join(moved, ","), api.OK)
	}
	if met < 6000 {
		t.Errorf("just %d under one another", met)
	}
}

// holdOne holds the calls of one name to its parts' normal texts.
func holdOne(t *testing.T, w written) {
	t.Helper()
	for _, s := range []string{w.text, w.normal()} {
		if got, err := dn.Normal(s); got != w.normal() || err != api.OK {
			t.Errorf("Normal(%q): %q, %v; not %q", s, got, err, w.normal())
		}
		if got := dn.Depth(s); got != len(w.parts) {
			t.Errorf("Depth(%q): %d", s, got)
		}
		n, _ := dn.Parse(s)
		printed, _ := dn.Print(n)
		if again, err := dn.Parse(printed); !sameNames(n, again) || err != api.OK {
			t.Errorf("Parse(%q): %q, %v; not %q", printed, again, err, n)
		}
		parent, ok := dn.Parent(s)
		if len(w.parts) == 0 {
			if parent != "" || ok {
				t.Errorf("Parent(%q): %q, %v", s, parent, ok)
			}
			continue
		}
		if parent != strings.Join(w.parts[1:], ",") || !ok {
			t.Errorf("Parent(%q): %q, %v", s, parent, ok)
		}
		if !dn.Under(s, parent) || dn.Compare(parent, s) != -1 {
			t.Errorf("%q and its parent", s)
		}
		holdJoin(t, w.parts[0], strings.ToUpper(parent), w.normal(), api.OK)
		if got, err := dn.Value("member", s); got != w.normal() || err != api.OK {
			t.Errorf("Value(%q): %q, %v", s, got, err)
		}
	}
}

// key orders names: their parts from the highest on, each ended by a byte
// below all that stand in them.
func key(w written) string {
	s := ""
	for _, p := range slices.Backward(w.parts) {
		s += p + "\x00"
	}
	return s
}

// P6.1: all short texts: names are what commas that aren't escaped cut into
// parts.
func TestAllShort(t *testing.T) {
	pieces := []string{"cn=a", "OU=B", ",", "+", `\`, `\,`, " ", "x"}
	var see func(s string, left int)
	see = func(s string, left int) {
		want, ok := modelNormal(s)
		got, err := dn.Normal(s)
		if ok && (got != want || err != api.OK) || !ok && (got != "" || err != api.ErrForm) {
			t.Errorf("Normal(%q): %q, %v; not %q, %v", s, got, err, want, ok)
		}
		if left == 0 {
			return
		}
		for _, p := range pieces {
			see(s+p, left-1)
		}
	}
	see("", 6)
}

// modelNormal tells the normal text of a short text, if it is a name's, and
// whether it is.
func modelNormal(s string) (string, bool) {
	if s == "" {
		return "", true
	}
	var texts []string
	escaped, start := false, 0
	for i := range len(s) + 1 {
		if i < len(s) && (escaped || s[i] != ',') {
			escaped = !escaped && s[i] == '\\'
			continue
		}
		list, err := rdn.Parse(s[start:i])
		if err != api.OK {
			return "", false
		}
		normal, _ := rdn.Normal(list)
		text, _ := rdn.Print(normal)
		texts = append(texts, text)
		start = i + 1
	}
	return strings.Join(texts, ","), true
}

// R1, R2: whatever comes, each call ends, and answers the same again.
func TestAgain(t *testing.T) {
	words := []string{"", "cn=a", "CN=A,DC=X", "dc=x", `cn=\`, ",", "\xff", "x=", deep(api.MaxRDNs), deep(13), tooLong()[0], strings.Repeat(`\,`, 100000)}
	ask := func(a, b, c string) string {
		n, e := dn.Parse(a)
		s, f := dn.Print(n)
		normal, g := dn.Normal(a)
		value, h := dn.Value(b, a)
		parent, ok := dn.Parent(a)
		joined, i := dn.Join(a, b)
		moved, j := dn.Move(a, b, c)
		return fmt.Sprint(n, e, s, f, normal, g, value, h, parent, ok, joined, i, moved, j, dn.Under(a, b), dn.Compare(a, b), dn.Depth(a))
	}
	var first []string
	for range 2 {
		var now []string
		for _, a := range words {
			for _, b := range append(words, "member", "serialNumber") {
				for _, c := range words {
					now = append(now, ask(a, b, c))
				}
			}
		}
		if first != nil && !slices.Equal(first, now) {
			t.Error("answers differ")
		}
		first = now
	}
}

// R3: a name that is handed in is left as it is, its spare room too.
func TestMemoryOfNames(t *testing.T) {
	list := part("uid", "ahead", "cn", " A ", "ou", "B", "uid", "behind")
	parts := [][]rdn.AVA{part("o", "ahead"), list[1:3], list[1:2], part("o", "behind")}
	given := dn.Name{Parts: parts[1:3]}
	s, err := dn.Print(given)
	if s != `cn=\ A\ +ou=B,cn=\ A\ ` || err != api.OK {
		t.Errorf("Print: %q, %v", s, err)
	}
	if !slices.Equal(list, part("uid", "ahead", "cn", " A ", "ou", "B", "uid", "behind")) {
		t.Errorf("changed to %q", list)
	}
	if !slices.Equal(parts[0], part("o", "ahead")) || !slices.Equal(parts[3], part("o", "behind")) || len(parts[1]) != 2 || len(parts[2]) != 1 {
		t.Errorf("changed to %q", parts)
	}
}

// R3: two names read of one text share nothing, nor do one's own parts.
func TestMemoryOfParse(t *testing.T) {
	first, _ := dn.Parse("cn=a+ou=b,cn=a+ou=b,dc=x")
	second, _ := dn.Parse("cn=a+ou=b,cn=a+ou=b,dc=x")
	want, _ := dn.Parse("cn=a+ou=b,cn=a+ou=b,dc=x")
	for i, p := range first.Parts {
		for j := range p[:cap(p)] {
			p[:cap(p)][j] = rdn.AVA{Type: "!", Value: "!"}
		}
		for j, other := range first.Parts {
			if j > i && !slices.Equal(other, want.Parts[j]) {
				t.Errorf("part %d written over with part %d", j, i)
			}
		}
	}
	clear(first.Parts[:cap(first.Parts)])
	if !sameNames(second, want) {
		t.Errorf("%q", second)
	}
}

// R3: no answer shares memory with a text that is handed in.
func TestMemoryOfTexts(t *testing.T) {
	room := []byte(`#cn=a,ou=b,dc=x#o=y#cn=z#member#description#a b#`)
	before := string(room)
	given := func(word string) string {
		at := strings.Index(before, word)
		return unsafe.String(&room[at], len(word))
	}
	s, up, to, one := given("cn=a,ou=b,dc=x"), given("ou=b,dc=x"), given("o=y"), given("cn=z")
	n, _ := dn.Parse(s)
	printed, _ := dn.Print(dn.Name{Parts: [][]rdn.AVA{{{Type: given("description"), Value: given("a b")}}}})
	var texts []string
	add := func(text string, _ any) { texts = append(texts, text) }
	normal, err := dn.Normal(s)
	add(normal, err)
	single, err := dn.Normal(to)
	add(single, err)
	value, err := dn.Value(given("member"), s)
	add(value, err)
	other, err := dn.Value(given("description"), given("a b"))
	add(other, err)
	parent, ok := dn.Parent(s)
	add(parent, ok)
	highest, ok := dn.Parent(given("ou=b,dc=x"))
	add(highest, ok)
	joined, err := dn.Join(one, to)
	add(joined, err)
	alone, err := dn.Join(one, "")
	add(alone, err)
	moved, err := dn.Move(s, up, to)
	add(moved, err)
	whole, err := dn.Move(s, s, to)
	add(whole, err)
	dn.Under(s, up)
	dn.Compare(s, up)
	dn.Depth(s)
	if string(room) != before {
		t.Errorf("changed to %q", room)
	}
	for i := range room {
		room[i] = '!'
	}
	if !sameNames(n, name(part("cn", "a"), part("ou", "b"), part("dc", "x"))) {
		t.Errorf("Parse: %q", n)
	}
	want := []string{"cn=a,ou=b,dc=x", "o=y", "cn=a,ou=b,dc=x", "a b", "ou=b,dc=x", "dc=x", "cn=z,o=y", "cn=z", "cn=a,o=y", "o=y"}
	if printed != "description=a b" || !slices.Equal(texts, want) {
		t.Errorf("%q, %q", printed, texts)
	}
}
