package policy_test

import (
	"fmt"
	"math"
	"slices"
	"strings"
	"testing"
	"unsafe"

	"verger/api"
	"verger/policy"
)

// The rights, and all of them.
const (
	read = 1 << iota
	compare
	write
	add
	remove
	speakFor
	all = 63
)

// allow and forbid make rules.
func allow(who string, rights int, target, attr string) policy.Rule {
	return policy.Rule{Who: who, Target: target, Attr: attr, Rights: rights, Allow: true}
}

func forbid(who string, rights int, target, attr string) policy.Rule {
	return policy.Rule{Who: who, Target: target, Attr: attr, Rights: rights}
}

// deep is the normal text of a name of so many parts.
func deep(count int) string {
	parts := make([]string, count)
	for i := range parts {
		parts[i] = fmt.Sprintf("ou=p%d", i)
	}
	return strings.Join(parts, ",")
}

// long is the normal text of a name of so many bytes, about MaxText.
func long(size int) string {
	full := "cn=" + strings.Repeat("a", 196) + ","
	above := strings.Repeat(full, 4)
	return above + "cn=" + strings.Repeat("b", size-len(above)-len("cn="))
}

// typeNames are the types' names, as layer 4 tells them.
func typeNames() []string {
	return []string{"objectClass", "cn", "ou", "o", "dc", "uid", "description", "mail", "userPassword", "ref", "serialNumber", "position", "aliasedObjectName", "member"}
}

// normals are names' normal texts.
func normals() []string {
	return []string{"", "dc=x", "cn=a,dc=x", "cn=a+ou=b,dc=x", `cn=a\,b,dc=x`, `cn=a\\,dc=x`, `cn=\c3\89`, "objectClass=top", "serialNumber=-7,o=y", "cn=a b", deep(api.MaxRDNs), long(api.MaxText)}
}

// notNormals are names' texts that aren't normal ones.
func notNormals() []string {
	return []string{"DC=x", "dc=X", "cn=a,dc=X", "cn=A,dc=x", "cn=a,DC=x", "ou=b+cn=a", `cn=a\2cb`, `cn=\41`, `cn=\C3\89`, "cn=a  b", `cn=\ a`, `cn=a\ `, "objectclass=top", "cn=\xff", `cn=a\=b`}
}

// noNames are texts that are no names', or have no normal text.
func noNames() []string {
	return []string{
		" ", ",", "x", "cn", "cn=", "=a", "x=a", "dc=x,", ",dc=x", "cn=a, dc=x", "cn=a;dc=x", " dc=x", "dc=x ", `dc=x\`, "member=cn=a", "cn=a+cn=b", "dc=x\x00",
		deep(api.MaxRDNs + 1), long(api.MaxText + 1), "cn=" + strings.Repeat("a", api.MaxValue+1), "cn=" + strings.Repeat("\xff", 200) + ",cn=" + strings.Repeat("\xff", 200),
		strings.Repeat("dc=x,", 100000), strings.Repeat(`\`, 100000),
	}
}

// noTypes are texts that are no type's name, nor "".
func noTypes() []string {
	return []string{" ", "*", "+", "x", "sn", "cnn", "cn ", " cn", "cn=a", "c", "member;x", "\x00", "\xff", "\u017ferialNumber", strings.Repeat("cn", 100000)}
}

// unformed are lists of one rule each that isn't formed.
func unformed() [][]policy.Rule {
	var list [][]policy.Rule
	bad := func(r policy.Rule) { list = append(list, []policy.Rule{r}) }
	for _, who := range []string{"", "a", "**", "--", "==", "*-", " ", " *", "* ", "*dc=x", "-dc=x", "=dc=x", "dc=x", "cn=a,dc=x", "@@", "@*", "@-", "@@dc=x", " @dc=x", "\x00", "+", "#", "@ dc=x"} {
		bad(allow(who, read, "", ""))
	}
	for _, name := range append(notNormals(), noNames()...) {
		bad(allow("@"+name, read, "", ""))
		bad(allow("*", read, name, ""))
	}
	for _, name := range []string{"*", "-", "=", "@", "@dc=x"} {
		bad(allow("*", read, name, ""))
	}
	for _, attr := range append(noTypes(), "CN", "Cn", "objectclass", "OBJECTCLASS", "serialnumber", "aliasedobjectname", "Member", "userpassword") {
		bad(allow("*", read, "", attr))
	}
	for _, rights := range []int{0, -1, -64, 64, 65, 127, 128, 1 << 32, math.MaxInt, math.MinInt} {
		bad(allow("*", rights, "", ""))
	}
	bad(policy.Rule{})
	return list
}

// holdFormed holds Formed to an answer, and the other calls to what they answer
// of rules that aren't formed.
func holdFormed(t *testing.T, list []policy.Rule, want bool) {
	t.Helper()
	if got := policy.Formed(list); got != want {
		t.Errorf("Formed(%.300q): %v", fmt.Sprint(list), got)
	}
	if want {
		return
	}
	for right := read; right <= speakFor; right *= 2 {
		for _, subject := range []string{"", "dc=x"} {
			holdDecide(t, list, subject, right, "dc=x", "", false)
			holdDecide(t, list, subject, right, "dc=x", "cn", false)
		}
	}
	for _, context := range []string{"", "dc=x"} {
		holdRestrict(t, list, context)
	}
}

// holdDecide holds Decide to an answer.
func holdDecide(t *testing.T, list []policy.Rule, subject string, right int, name, attr string, want bool) {
	t.Helper()
	if got := policy.Decide(list, subject, right, name, attr); got != want {
		t.Errorf("Decide(%.300q, %.80q, %d, %.80q, %.80q): %v", fmt.Sprint(list), subject, right, name, attr, got)
	}
}

// holdRestrict holds Restrict to the rules that it should tell.
func holdRestrict(t *testing.T, list []policy.Rule, context string, want ...policy.Rule) {
	t.Helper()
	if got := policy.Restrict(list, context); !slices.Equal(got, want) {
		t.Errorf("Restrict(%.300q, %.80q): %.300q, not %.300q", fmt.Sprint(list), context, fmt.Sprint(got), fmt.Sprint(want))
	}
}

// P11.1: the chapter's example.
func TestExamples(t *testing.T) {
	list := []policy.Rule{forbid("*", read, "ou=b,dc=x", "mail"), allow("*", read, "", "")}
	for _, subject := range []string{"", "dc=x", "cn=a,ou=b,dc=x"} {
		for _, attr := range append(typeNames(), "") {
			for _, name := range []string{"", "dc=x", "o=y", "cn=a,dc=x", "ou=bb,dc=x"} {
				holdDecide(t, list, subject, read, name, attr, true)
			}
			for _, name := range []string{"ou=b,dc=x", "cn=a,ou=b,dc=x"} {
				holdDecide(t, list, subject, read, name, attr, attr != "mail")
			}
			holdDecide(t, list, subject, write, "dc=x", attr, false)
		}
	}
}

// P11.1: rules that are formed.
func TestFormed(t *testing.T) {
	holdFormed(t, nil, true)
	holdFormed(t, []policy.Rule{}, true)
	var whos []string
	for _, name := range normals() {
		whos = append(whos, "@"+name)
	}
	for _, who := range append(whos, "*", "-", "=") {
		for _, target := range normals() {
			holdFormed(t, []policy.Rule{allow(who, read, target, "cn"), forbid(who, all, target, "")}, true)
		}
	}
	for _, attr := range append(typeNames(), "") {
		holdFormed(t, []policy.Rule{allow("*", read, "", attr)}, true)
	}
	for rights := range all {
		holdFormed(t, []policy.Rule{forbid("-", rights+1, "dc=x", "")}, true)
	}
}

// P11.1: rules that aren't, wherever the one that isn't stands.
func TestUnformed(t *testing.T) {
	good := []policy.Rule{allow("*", all, "", ""), allow("@dc=x", all, "dc=x", "cn")}
	for _, bad := range unformed() {
		holdFormed(t, bad, false)
		holdFormed(t, slices.Concat(bad, good), false)
		holdFormed(t, slices.Concat(good, bad), false)
		holdFormed(t, slices.Concat(good, bad, good), false)
	}
}

// P11.1: at most MaxRules.
func TestMostRules(t *testing.T) {
	list := slices.Repeat([]policy.Rule{allow("*", all, "", "")}, 100000)
	for _, count := range []int{1, 2, api.MaxRules - 1, api.MaxRules} {
		holdFormed(t, list[:count], true)
		holdDecide(t, list[:count], "", read, "dc=x", "cn", true)
		holdRestrict(t, list[:count], "dc=x", list[:count]...)
	}
	for _, count := range []int{api.MaxRules + 1, api.MaxRules + 2, len(list)} {
		holdFormed(t, list[:count], false)
	}
	holdFormed(t, append(slices.Clone(list[:api.MaxRules-1]), policy.Rule{}), false)
	// The last one may be the one that counts.
	last := append(slices.Repeat([]policy.Rule{allow("*", all, "o=y", "")}, api.MaxRules-1), allow("*", write, "dc=x", "cn"))
	holdDecide(t, last, "", write, "dc=x", "cn", true)
	holdDecide(t, last, "", write, "dc=x", "ou", false)
}

// P11.1: without rules nobody may do anything.
func TestNoRules(t *testing.T) {
	for _, list := range [][]policy.Rule{nil, {}} {
		for right := read; right <= speakFor; right *= 2 {
			holdDecide(t, list, "", right, "", "", false)
			holdDecide(t, list, "dc=x", right, "dc=x", "cn", false)
		}
		holdRestrict(t, list, "")
		holdRestrict(t, list, "dc=x")
	}
}

// P11.1: whose a rule is by its Who.
func TestWho(t *testing.T) {
	const about = "cn=a,dc=x"
	subjects := []string{"", "dc=x", "cn=a,dc=x", "cn=b,cn=a,dc=x", "cn=b,dc=x", "dc=xx", "cn=aa,dc=x", "o=y", `cn=a\,dc=x`}
	for who, whose := range map[string][]string{
		"*":                         subjects,
		"-":                         {""},
		"=":                         {"cn=a,dc=x"},
		"@":                         subjects[1:],
		"@dc=x":                     {"dc=x", "cn=a,dc=x", "cn=b,cn=a,dc=x", "cn=b,dc=x", "cn=aa,dc=x"},
		"@cn=a,dc=x":                {"cn=a,dc=x", "cn=b,cn=a,dc=x"},
		"@cn=b,cn=a,dc=x":           {"cn=b,cn=a,dc=x"},
		"@o=y":                      {"o=y"},
		"@o=z":                      nil,
		`@cn=a\,dc=x`:               {`cn=a\,dc=x`},
		"@" + deep(api.MaxRDNs):     nil,
		"@cn=z,cn=b,cn=a,dc=x":      nil,
		"@cn=a,cn=b,cn=a,cn=a,dc=x": nil,
	} {
		for _, subject := range subjects {
			its := slices.Contains(whose, subject)
			holdDecide(t, []policy.Rule{allow(who, read, "", "")}, subject, read, about, "", its)
			holdDecide(t, []policy.Rule{allow(who, read, "", "")}, subject, read, about, "mail", its)
			holdDecide(t, []policy.Rule{allow(who, read, "", "mail")}, subject, read, about, "mail", its)
			holdDecide(t, []policy.Rule{forbid(who, read, "", ""), allow("*", read, "", "")}, subject, read, about, "", !its)
		}
	}
}

// P11.1: who has the very name that is asked about; nobody known has none, not
// even the root's.
func TestItself(t *testing.T) {
	list := []policy.Rule{allow("=", speakFor, "dc=x", ""), forbid("*", all, "dc=x", ""), allow("=", speakFor, "", "")}
	names := append(normals(), "cn=b,dc=x")
	for _, subject := range names {
		for _, name := range names {
			holdDecide(t, list, subject, speakFor, name, "", subject == name && name != "")
			holdDecide(t, list, subject, speakFor, name, "cn", subject == name && name != "")
			holdDecide(t, list, subject, read, name, "", false)
		}
	}
}

// P11.1: each right by itself, and none that isn't among a rule's.
func TestRights(t *testing.T) {
	for rights := 1; rights <= all; rights++ {
		for right := read; right <= speakFor; right *= 2 {
			among := rights&right != 0
			holdDecide(t, []policy.Rule{allow("*", rights, "", "")}, "", right, "dc=x", "cn", among)
			holdDecide(t, []policy.Rule{forbid("*", rights, "", ""), allow("*", all, "", "")}, "", right, "dc=x", "", !among)
		}
	}
}

// P11.1: what isn't one bit of the six is no right.
func TestNoRights(t *testing.T) {
	list := []policy.Rule{allow("*", all, "", "")}
	for right := -300; right <= 300; right++ {
		one := slices.Contains([]int{1, 2, 4, 8, 16, 32}, right)
		holdDecide(t, list, "dc=x", right, "dc=x", "", one)
	}
	for _, right := range []int{1<<32 + 1, 1 << 32, 1 << 62, math.MaxInt, math.MinInt, math.MinInt + 1} {
		holdDecide(t, list, "dc=x", right, "dc=x", "", false)
	}
}

// P11.1: what names a rule is about by its Target.
func TestTarget(t *testing.T) {
	names := []string{"", "dc=x", "cn=a,dc=x", "cn=b,cn=a,dc=x", "cn=aa,dc=x", "dc=xx", "o=y", `cn=a\,dc=x`, "cn=a"}
	for target, under := range map[string][]string{
		"":               names,
		"dc=x":           {"dc=x", "cn=a,dc=x", "cn=b,cn=a,dc=x", "cn=aa,dc=x"},
		"cn=a,dc=x":      {"cn=a,dc=x", "cn=b,cn=a,dc=x"},
		"cn=b,cn=a,dc=x": {"cn=b,cn=a,dc=x"},
		"o=y":            {"o=y"},
		"o=z":            nil,
		"cn=a":           {"cn=a"},
		`cn=a\,dc=x`:     {`cn=a\,dc=x`},
		"cn=z,dc=x":      nil,
	} {
		for _, name := range names {
			its := slices.Contains(under, name)
			holdDecide(t, []policy.Rule{allow("*", read, target, "")}, "o=s", read, name, "", its)
			holdDecide(t, []policy.Rule{allow("*", read, target, "uid")}, "", read, name, "uid", its)
			holdDecide(t, []policy.Rule{forbid("*", read, target, ""), allow("*", read, "", "")}, "", read, name, "cn", !its)
		}
	}
}

// P11.1: what attributes a rule is about by its Attr; the entry itself is "".
func TestAttr(t *testing.T) {
	attrs := append(typeNames(), "")
	for _, own := range attrs {
		for _, asked := range attrs {
			its := own == "" || own == asked
			holdDecide(t, []policy.Rule{allow("*", read, "", own)}, "", read, "dc=x", asked, its)
			holdDecide(t, []policy.Rule{forbid("*", read, "", own), allow("*", read, "", "")}, "", read, "dc=x", asked, !its)
			holdDecide(t, []policy.Rule{allow("*", read, "", own)}, "", read, "dc=x", strings.ToUpper(asked), its)
			holdDecide(t, []policy.Rule{allow("*", read, "", own)}, "", read, "dc=x", strings.ToLower(asked), its)
		}
	}
}

// P11.1: the first rule that is about it counts, and no other.
func TestFirst(t *testing.T) {
	list := []policy.Rule{
		forbid("-", write, "dc=x", ""),
		allow("@dc=x", write, "dc=x", "mail"),
		allow("=", write, "", ""),
		forbid("*", write, "ou=b,dc=x", ""),
		allow("@ou=b,dc=x", write|read, "", "cn"),
		forbid("*", write, "", "cn"),
		allow("*", write, "", ""),
		forbid("*", all, "", ""),
	}
	for _, c := range []struct {
		subject, name, attr string
		want                bool
	}{
		{"", "dc=x", "mail", false}, {"", "o=y", "mail", true}, {"", "o=y", "cn", false}, {"", "", "", true},
		{"cn=a,dc=x", "ou=b,dc=x", "mail", true}, {"cn=a,dc=x", "ou=b,dc=x", "", false}, {"cn=a,dc=x", "ou=b,dc=x", "cn", false},
		{"cn=a,ou=b,dc=x", "cn=a,ou=b,dc=x", "cn", true}, {"cn=a,ou=b,dc=x", "ou=b,dc=x", "cn", false}, {"cn=a,ou=b,dc=x", "dc=x", "cn", true},
		{"cn=a,dc=x", "dc=x", "cn", false}, {"cn=a,dc=x", "dc=x", "ou", true}, {"o=y", "cn=a,ou=b,dc=x", "mail", false}, {"o=y", "o=y", "cn", true},
	} {
		holdDecide(t, list, c.subject, write, c.name, c.attr, c.want)
		holdDecide(t, list[:len(list)-1], c.subject, write, c.name, c.attr, c.want)
	}
	holdDecide(t, list, "ou=b,dc=x", read, "o=y", "cn", true)
	holdDecide(t, list, "ou=b,dc=x", read, "o=y", "", false)
	holdDecide(t, list, "ou=b,dc=x", compare, "o=y", "cn", false)
}

// P11.1: subject, name and attr may be written in any way.
func TestAsWritten(t *testing.T) {
	list := []policy.Rule{allow("=", read, `cn=a\,b+ou=b,dc=x`, "objectClass"), allow(`@cn=a\,b+ou=b,dc=x`, write, `cn=a\,b+ou=b,dc=x`, "")}
	writings := []string{`cn=a\,b+ou=b,dc=x`, `OU=B+CN=A\,B,DC=X`, `ou=\ b+cn=A\2cb,DC=\58`, `CN=\41\2C\42+OU=b\ \ ,dc=x`}
	for _, subject := range writings {
		for _, name := range writings {
			for _, attr := range []string{"objectClass", "OBJECTCLASS", "objectclass", "oBJECTcLASS"} {
				holdDecide(t, list, subject, read, name, attr, true)
				holdDecide(t, list, "UID=z,"+subject, write, "UID=9,"+name, attr, true)
				holdDecide(t, list, "UID=z,"+subject, read, name, attr, false)
			}
			holdDecide(t, list, subject, write, name, "", true)
			holdDecide(t, list, subject, read, name, "CN", false)
		}
	}
}

// P11.1: what isn't a name, or a type, isn't allowed anything.
func TestNoQuestion(t *testing.T) {
	list := []policy.Rule{allow("*", all, "", "")}
	for _, name := range append(normals(), notNormals()...) {
		holdDecide(t, list, name, read, "dc=x", "", true)
		holdDecide(t, list, "dc=x", read, name, "cn", true)
	}
	for _, name := range noNames() {
		for _, attr := range []string{"", "cn"} {
			holdDecide(t, list, name, read, "dc=x", attr, false)
			holdDecide(t, list, "dc=x", read, name, attr, false)
			holdDecide(t, list, "", read, name, attr, false)
			holdDecide(t, list, name, read, name, attr, false)
			holdDecide(t, []policy.Rule{allow("=", all, "", "")}, name, read, name, attr, false)
		}
	}
	for _, attr := range noTypes() {
		holdDecide(t, list, "", read, "dc=x", attr, false)
		holdDecide(t, list, "dc=x", read, "dc=x", attr, false)
	}
}

// P11.2: the rules that stay, in their order, as often as they stand.
func TestRestrict(t *testing.T) {
	root, x, b := allow("*", read, "", ""), forbid("-", write, "dc=x", "cn"), allow("=", all, "ou=b,dc=x", "")
	a, bb, y := forbid("@ou=b,dc=x", add, "cn=a,ou=b,dc=x", "mail"), allow("@", remove, "ou=bb,dc=x", ""), allow("*", compare, "o=y", "")
	list := []policy.Rule{a, y, x, bb, root, b, x}
	for context, want := range map[string][]policy.Rule{
		"":                    list,
		"dc=x":                {a, x, bb, root, b, x},
		"ou=b,dc=x":           {a, x, root, b, x},
		"cn=a,ou=b,dc=x":      {a, x, root, b, x},
		"cn=b,ou=b,dc=x":      {x, root, b, x},
		"cn=z,cn=a,ou=b,dc=x": {a, x, root, b, x},
		"ou=bb,dc=x":          {x, bb, root, x},
		"o=y":                 {y, root},
		"cn=a,o=y":            {y, root},
		"o=z":                 {root},
		"dc=xx":               {root},
		`ou=b\,dc=x`:          {root},
		deep(api.MaxRDNs):     {root},
		long(api.MaxText):     {root},
	} {
		holdRestrict(t, list, context, want...)
		holdRestrict(t, list, strings.ToUpper(context), want...)
		holdRestrict(t, want, context, want...)
		if !policy.Formed(policy.Restrict(list, context)) {
			t.Errorf("Restrict(%q): not formed", context)
		}
	}
	holdRestrict(t, list, `OU=\42,dc=\20x`, a, x, root, b, x)
	for _, context := range noNames() {
		holdRestrict(t, list, context)
	}
	holdRestrict(t, []policy.Rule{a, y, x}, "o=z")
}

// R1, R2: whatever comes, each call ends, and answers the same again.
func TestAgain(t *testing.T) {
	lists := append(unformed(), nil, []policy.Rule{allow("*", all, "", "")}, []policy.Rule{forbid("@", read, "dc=x", "cn"), allow("=", all, "", "")})
	words := []string{"", "dc=x", "CN=A,DC=X", "cn", "@", "*", ",", `\`, "\xff", deep(api.MaxRDNs + 1), strings.Repeat("dc=x,", 100000)}
	var told [2]string
	for round := range told {
		var text strings.Builder
		for _, list := range lists {
			for _, a := range words {
				fmt.Fprint(&text, policy.Formed(list), policy.Restrict(list, a))
				for _, b := range words {
					fmt.Fprint(&text, policy.Decide(list, a, read, b, a), policy.Decide(list, a, -1, b, b), policy.Decide(list, b, speakFor, a, "CN"))
				}
			}
		}
		told[round] = text.String()
	}
	if told[0] != told[1] {
		t.Error("answers differ")
	}
}

// R3: a list that is handed in is left as it is, its spare room too; an answer
// has memory of its own.
func TestMemoryOfLists(t *testing.T) {
	whole := []policy.Rule{
		forbid("ahead", read, "", ""), allow("*", read, "", ""), forbid("-", write, "dc=x", "cn"), allow("=", all, "o=y", ""), allow("*", read, "cn=a,dc=x", ""), forbid("behind", read, "", ""),
	}
	before := slices.Clone(whole)
	list := whole[1:4]
	got, again := policy.Restrict(list, "dc=x"), policy.Restrict(list, "dc=x")
	formed, decided := policy.Formed(list), policy.Decide(list, "", read, "dc=x", "cn")
	if !slices.Equal(whole, before) || !formed || !decided {
		t.Errorf("changed to %v; %v, %v", whole, formed, decided)
	}
	want := []policy.Rule{before[1], before[2]}
	room := got[:cap(got)]
	for i := range room {
		room[i] = forbid("!", 0, "!", "!")
	}
	if !slices.Equal(whole, before) || !slices.Equal(again, want) {
		t.Errorf("written over: %v, %v", whole, again)
	}
	everything := policy.Restrict(list, "")
	clear(everything[:cap(everything)])
	if !slices.Equal(whole, before) {
		t.Errorf("written over: %v", whole)
	}
	clear(whole)
	if !slices.Equal(again, want) {
		t.Errorf("written over: %v", again)
	}
}

// R3: no text that is handed in is kept.
func TestMemoryOfTexts(t *testing.T) {
	room := []byte("#@ou=b,dc=x#cn=a,dc=x#mail#dc=x#*#")
	before := string(room)
	given := func(word string) string {
		at := strings.Index(before, word)
		return unsafe.String(&room[at], len(word))
	}
	list := []policy.Rule{
		forbid(given("@ou=b,dc=x"), read, given("cn=a,dc=x"), given("mail")),
		allow(given("*"), write, given("dc=x"), ""),
	}
	got := policy.Restrict(list, given("dc=x"))
	if !policy.Decide(list, given("ou=b,dc=x"), write, given("cn=a,dc=x"), given("mail")) || string(room) != before {
		t.Errorf("changed to %q", room)
	}
	for i := range room {
		room[i] = '!'
	}
	if want := []policy.Rule{forbid("@ou=b,dc=x", read, "cn=a,dc=x", "mail"), allow("*", write, "dc=x", "")}; !slices.Equal(got, want) {
		t.Errorf("kept: %q", fmt.Sprint(got))
	}
}
