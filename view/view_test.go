package view_test

import (
	"fmt"
	"slices"
	"strings"
	"testing"

	"verger/api"
	"verger/entry"
	"verger/policy"
	"verger/view"
)

// The right to read, and all of the others.
const (
	read   = 1
	others = 62
)

// allow and forbid make rules.
func allow(who string, rights int, target, attr string) policy.Rule {
	return policy.Rule{Who: who, Target: target, Attr: attr, Rights: rights, Allow: true}
}

func forbid(who string, rights int, target, attr string) policy.Rule {
	return policy.Rule{Who: who, Target: target, Attr: attr, Rights: rights}
}

// everything lets anybody read all.
func everything() []policy.Rule {
	return []policy.Rule{allow("*", read, "", "")}
}

// attr makes an attribute.
func attr(typ string, values ...string) api.Attr {
	return api.Attr{Type: typ, Values: values}
}

// of makes an entry.
func of(name string, attrs ...api.Attr) api.Entry {
	return api.Entry{Name: name, Attrs: attrs}
}

// person makes an entry whose name's first part is cn=a, and more attributes,
// whose types come behind objectClass.
func person(name string, more ...api.Attr) api.Entry {
	return of(name, append([]api.Attr{attr("cn", "a"), attr("objectClass", "person")}, more...)...)
}

// allTypes are the types' names, rising byte by byte.
func allTypes() []string {
	return []string{"aliasedObjectName", "cn", "dc", "description", "mail", "member", "o", "objectClass", "ou", "position", "ref", "serialNumber", "uid", "userPassword"}
}

// fullest is an entry with as many attributes, and values of each, as may be.
func fullest() api.Entry {
	e := of("cn=1,dc=x")
	for _, typ := range allTypes() {
		a := attr(typ)
		for i := range api.MaxValues {
			value := fmt.Sprint(i)
			if typ == "aliasedObjectName" || typ == "member" {
				value = "CN=" + value
			}
			a.Values = append(a.Values, value)
		}
		e.Attrs = append(e.Attrs, a)
	}
	return e
}

// deep is the normal text of a name of so many parts.
func deep(parts int) string {
	return "cn=a" + strings.Repeat(",ou=b", parts-1)
}

// show tells entries, or their beginning.
func show(list ...api.Entry) string {
	return fmt.Sprintf("%.300q", fmt.Sprintf("%q", list))
}

// hold holds One and Of to what is seen of an entry.
func hold(t *testing.T, e api.Entry, rules []policy.Rule, subject string, want api.Entry) {
	t.Helper()
	got, ok := view.One(e, rules, subject)
	if !ok || !entry.Same(got, want) {
		t.Errorf("One(%s, %.300q, %.80q): %s, %v, not %s", show(e), fmt.Sprint(rules), subject, show(got), ok, show(want))
	}
	holdOf(t, []api.Entry{e}, rules, subject, want)
}

// holdNothing holds One and Of to seeing nothing of an entry.
func holdNothing(t *testing.T, e api.Entry, rules []policy.Rule, subject string) {
	t.Helper()
	// R5: beside false there is no entry.
	if got, ok := view.One(e, rules, subject); ok || got.Name != "" || len(got.Attrs) > 0 {
		t.Errorf("One(%s, %.300q, %.80q): %s, %v", show(e), fmt.Sprint(rules), subject, show(got), ok)
	}
	holdOf(t, []api.Entry{e}, rules, subject)
}

// holdOf holds Of to a view.
func holdOf(t *testing.T, list []api.Entry, rules []policy.Rule, subject string, want ...api.Entry) {
	t.Helper()
	if got := view.Of(list, rules, subject); !slices.EqualFunc(got, want, entry.Same) {
		t.Errorf("Of(%s, %.300q, %.80q): %s, not %s", show(list...), fmt.Sprint(rules), subject, show(got...), show(want...))
	}
}

// P12.1: the chapter's examples.
func TestExamples(t *testing.T) {
	cn := []policy.Rule{allow("*", read, "", "cn")}
	shut := []policy.Rule{forbid("*", read, "ou=b,dc=x", ""), allow("*", read, "", "")}
	for _, subject := range []string{"", "dc=x", "cn=a,ou=b,dc=x", "cn=a,dc=x"} {
		holdNothing(t, person("cn=a,dc=x"), cn, subject)
		holdNothing(t, person("cn=a"), cn, subject)
		for _, name := range []string{"cn=a,ou=b,dc=x", "cn=a,cn=c,ou=b,dc=x", "cn=a,ou=b,ou=b,dc=x"} {
			holdNothing(t, person(name), shut, subject)
		}
		holdNothing(t, of("ou=b,dc=x", attr("objectClass", "top"), attr("ou", "b")), shut, subject)
		for _, name := range []string{"cn=a,dc=x", "cn=a", "cn=a,ou=bb,dc=x", "cn=a,ou=b", `cn=a,ou=b\,dc=x`, "cn=a,ou=b,dc=y"} {
			hold(t, person(name), shut, subject, person(name))
		}
	}
}

// P12.1: of what may be read all is seen, as it is written.
func TestAll(t *testing.T) {
	for _, e := range []api.Entry{
		person("cn=a"), person("cn=a,dc=x"), person(deep(api.MaxRDNs)), fullest(),
		of("cn=ann lee+ou=b,dc=x", attr("cn", "b", " ANN  Lee "), attr("objectClass", "Top", "PERSON"), attr("ou", "B")),
		of("objectClass=top", attr("objectClass", "top")),
		of("cn=a,dc=x", attr("aliasedObjectName", "CN=B,dc=x"), attr("cn", "A"), attr("objectClass", "ALIAS")),
		person(`cn=a,ou=\c3\89\,dc=x`), person("cn=a,serialNumber=-7", attr("userPassword", "\x00", " ", "A", "a")),
	} {
		for _, subject := range []string{"", "dc=x", e.Name} {
			hold(t, e, everything(), subject, e)
		}
	}
}

// P12.1: just those attributes that may be read, be they all or none.
func TestAttributes(t *testing.T) {
	e := fullest()
	hold(t, e, []policy.Rule{forbid("*", read, "", "cn"), allow("*", read, "", "")}, "", of(e.Name, slices.Delete(slices.Clone(e.Attrs), 1, 2)...))
	for i, typ := range allTypes() {
		without := slices.Concat(e.Attrs[:i], e.Attrs[i+1:])
		hold(t, e, []policy.Rule{forbid("*", read, e.Name, typ), allow("*", read, "", "")}, "", of(e.Name, without...))
		// The entry itself may be read, but of what it has just one attribute.
		var rules []policy.Rule
		for j, other := range allTypes() {
			if i != j {
				rules = append(rules, forbid("*", read, "dc=x", other))
			}
		}
		rules = append(rules, allow("*", read, "dc=x", ""))
		hold(t, e, rules, "", of(e.Name, e.Attrs[i]))
		// Nor that one.
		hold(t, e, append([]policy.Rule{forbid("*", read, "dc=x", typ)}, rules...), "", of(e.Name))
	}
}

// P12.1: what is told of attributes doesn't hide the entry, nor what is under it.
func TestAttributesAbove(t *testing.T) {
	rules := []policy.Rule{forbid("*", read, "ou=b,dc=x", "ou"), forbid("*", read, "dc=x", "objectClass"), allow("*", read, "", "")}
	hold(t, person("cn=a,ou=b,dc=x", attr("ou", "b")), rules, "", of("cn=a,ou=b,dc=x", attr("cn", "a")))
	hold(t, person("cn=a,dc=x", attr("ou", "b")), rules, "", of("cn=a,dc=x", attr("cn", "a"), attr("ou", "b")))
	// Attributes alone that may be read show nothing, here or above.
	rules = []policy.Rule{allow("*", read, "", "cn"), allow("*", read, "cn=a,dc=x", "")}
	holdNothing(t, person("cn=a,dc=x"), rules, "")
	holdNothing(t, person("cn=a,ou=b,cn=a,dc=x"), rules, "")
}

// P12.1: all above the entry have to be readable by their names, be they there
// or not, but the root.
func TestAbove(t *testing.T) {
	name := "cn=a,ou=d,ou=c,ou=b,dc=x"
	ways := []string{"cn=a,ou=d,ou=c,ou=b,dc=x", "ou=d,ou=c,ou=b,dc=x", "ou=c,ou=b,dc=x", "ou=b,dc=x", "dc=x"}
	for i, target := range ways {
		// Just what is under the target may be read, and what is above it not.
		if i < len(ways)-1 {
			holdNothing(t, person(name), []policy.Rule{allow("*", read, target, "")}, "")
		}
		// All but what lies at just one of the places.
		rules := []policy.Rule{forbid("*", read, target, ""), allow("*", read, "", "")}
		if i > 0 {
			rules = append([]policy.Rule{allow("*", read, ways[i-1], "")}, rules...)
		}
		holdNothing(t, person(name), rules, "")
		holdNothing(t, person(name), rules, "cn=a,dc=x")
		hold(t, person("cn=a,ou=z,dc=y"), rules, "", person("cn=a,ou=z,dc=y"))
	}
	// Nobody may read the root.
	hold(t, person(name), []policy.Rule{allow("*", read, "dc=x", "")}, "", person(name))
	hold(t, person("cn=a"), []policy.Rule{allow("*", read, "cn=a", "")}, "", person("cn=a"))
	hold(t, person(name), []policy.Rule{allow("*", read, "dc=x", ""), forbid("*", 63, "", "")}, "", person(name))
}

// P12.1: as many are above as may be.
func TestDeep(t *testing.T) {
	name := deep(api.MaxRDNs)
	for parts := 1; parts < api.MaxRDNs; parts++ {
		above := strings.TrimPrefix(strings.Repeat(",ou=b", parts), ",")
		below := "ou=b," + above
		if parts == api.MaxRDNs-1 {
			below = name
		}
		holdNothing(t, person(name), []policy.Rule{allow("*", read, below, ""), forbid("*", read, above, ""), allow("*", read, "", "")}, "")
	}
	hold(t, person(name), []policy.Rule{allow("*", read, "ou=b", "")}, "", person(name))
}

// P12.1: the right to read counts, and no other.
func TestRight(t *testing.T) {
	e := person("cn=a,dc=x")
	holdNothing(t, e, []policy.Rule{allow("*", others, "", "")}, "")
	holdNothing(t, e, []policy.Rule{allow("*", others, "dc=x", ""), allow("*", read, "cn=a,dc=x", "")}, "")
	hold(t, e, []policy.Rule{allow("*", others, "", "cn"), forbid("*", read, "", "cn"), allow("*", read, "", "")}, "", of("cn=a,dc=x", attr("objectClass", "person")))
	hold(t, e, []policy.Rule{forbid("*", others, "", ""), allow("*", read, "", "")}, "", e)
	hold(t, e, []policy.Rule{allow("*", 63, "", "")}, "", e)
}

// P12.1: it hangs on who looks, however the subject is written.
func TestSubject(t *testing.T) {
	e := person("cn=a,dc=x", attr("userPassword", "p"))
	rules := []policy.Rule{
		allow("=", read, "cn=a,dc=x", "userPassword"), forbid("*", read, "", "userPassword"),
		forbid("-", read, "", "objectClass"), forbid("@dc=y", read, "cn=a,dc=x", ""), allow("*", read, "", ""),
	}
	for _, subject := range []string{"cn=a,dc=x", "CN=A,DC=X", `cn=\61,dc=x`} {
		hold(t, e, rules, subject, e)
	}
	hold(t, e, rules, "cn=b,dc=x", person("cn=a,dc=x"))
	hold(t, e, rules, "", of("cn=a,dc=x", attr("cn", "a")))
	for _, subject := range []string{"dc=y", "cn=a,dc=y", `CN=A,DC=\59`} {
		holdNothing(t, e, rules, subject)
		hold(t, person("cn=a,dc=z"), rules, subject, person("cn=a,dc=z"))
	}
	// Whose own entry it is can't see it, if what is above is shut.
	own := []policy.Rule{allow("=", read, "", "")}
	holdNothing(t, e, own, "cn=a,dc=x")
	hold(t, person("cn=a"), own, "cn=a", person("cn=a"))
	for _, subject := range []string{" ", "x", ",", "cn=a,", "cn=a, dc=x", "sn=a", "*", "-", "=", "@", "@dc=x", deep(api.MaxRDNs + 1), strings.Repeat("a", 100000)} {
		holdNothing(t, e, everything(), subject)
		holdNothing(t, e, []policy.Rule{allow("-", read, "", ""), allow("@", read, "", "")}, subject)
	}
}

// P12.1: without rules, and of such that aren't formed, nothing is seen.
func TestRules(t *testing.T) {
	e := person("cn=a,dc=x")
	full := slices.Repeat(everything(), api.MaxRules)
	hold(t, e, full, "", e)
	for _, rules := range [][]policy.Rule{
		nil, {}, slices.Repeat(everything(), api.MaxRules+1), slices.Repeat(everything(), 10000),
		append(everything(), policy.Rule{}), append(everything(), allow("", read, "", "")), append(everything(), allow("*", 64, "", "")),
		append(everything(), allow("*", read, "DC=x", "")), append(everything(), allow("*", read, "", "CN")), append(everything(), allow("@x", read, "", "")),
	} {
		for _, subject := range []string{"", "cn=a,dc=x"} {
			holdNothing(t, e, rules, subject)
		}
	}
}

// unformed are entries that aren't formed.
func unformed() []api.Entry {
	cn, class := attr("cn", "a"), attr("objectClass", "person")
	over := fullest()
	over.Attrs = append(over.Attrs, attr("userPassword", "a"))
	return []api.Entry{
		{}, of("cn=a,dc=x"), of("", cn, class), of("cn=a,dc=x", cn), of("cn=a,dc=x", class), of("cn=b,dc=x", cn, class), of("cn=a+ou=b,dc=x", cn, class),
		person("CN=a,dc=x"), person("cn=A,dc=x"), person("cn=a,"), person("cn=a, dc=x"), person("a"), person(deep(api.MaxRDNs + 1)), person(strings.Repeat("cn=a,", 10000)),
		of("cn=a,dc=x", class, cn), of("cn=a,dc=x", cn, cn, class), of("cn=a,dc=x", attr("CN", "a"), class), person("cn=a,dc=x", attr("sn", "s")), of("cn=a,dc=x", attr("", "s"), cn, class),
		person("cn=a,dc=x", attr("ou")), person("cn=a,dc=x", attr("ou", "")), person("cn=a,dc=x", attr("ou", "b", "B")), person("cn=a,dc=x", attr("serialNumber", "07")),
		of("cn=a,dc=x", cn, attr("member", "a"), class), of("ou=b,dc=x", attr("objectClass", "referral"), attr("ref", "ldap://1")), over, {Name: "dc=x", Attrs: make([]api.Attr, 100000)},
	}
}

// P12.1: nothing is seen of what isn't formed, wherever it stands.
func TestUnformed(t *testing.T) {
	first, last := person("cn=a,dc=x"), person("cn=a,dc=a")
	for _, e := range unformed() {
		for _, subject := range []string{"", "cn=a,dc=x", e.Name} {
			holdNothing(t, e, everything(), subject)
		}
		holdOf(t, []api.Entry{e, first, e, last, e}, everything(), "", first, last)
	}
	holdOf(t, unformed(), everything(), "")
}

// P12.1: a view is in the order of the list, and has what it has as often.
func TestOrder(t *testing.T) {
	a, b, c, d := person("cn=a,dc=x"), person("cn=a,ou=b,dc=x"), person("cn=a"), person("cn=a,dc=x", attr("ou", "b"))
	for _, list := range [][]api.Entry{nil, {}, {a}, {a, b, c, d}, {d, c, b, a}, {c, a, d, b}, {a, a, d, a}} {
		holdOf(t, list, everything(), "", list...)
		holdOf(t, list, nil, "")
		holdOf(t, list, []policy.Rule{forbid("*", read, "cn=a,dc=x", ""), allow("*", read, "", "")}, "", slices.DeleteFunc(slices.Clone(list), func(e api.Entry) bool { return e.Name == "cn=a,dc=x" })...)
	}
	long := slices.Repeat([]api.Entry{b, a}, api.MaxEntries)
	holdOf(t, long, everything(), "", long...)
	holdOf(t, long, []policy.Rule{forbid("*", read, "ou=b,dc=x", ""), forbid("*", read, "", "cn"), allow("*", read, "", "")}, "", slices.Repeat([]api.Entry{of("cn=a,dc=x", attr("objectClass", "person"))}, api.MaxEntries)...)
}

// R1, R2: whatever comes, each call ends, and answers the same again.
func TestAgain(t *testing.T) {
	list := append(unformed(), person("cn=a,dc=x"), fullest(), person(deep(api.MaxRDNs)))
	subjects := []string{"", "dc=x", "CN=1,dc=x", "\x00", ",", `\`, strings.Repeat("dc=x,", 10000)}
	rules := [][]policy.Rule{nil, everything(), {allow("=", 63, "", ""), forbid("@", read, "", "cn")}, {forbid("*", read, "", "cn"), allow("*", read, "dc=x", "")}, {{}}, make([]policy.Rule, 10000)}
	var told [2]string
	for round := range told {
		var text strings.Builder
		for _, r := range rules {
			for _, subject := range subjects {
				fmt.Fprintf(&text, "%q", view.Of(list, r, subject))
				for _, e := range list {
					got, ok := view.One(e, r, subject)
					fmt.Fprintf(&text, "%q%v", got, ok)
				}
			}
		}
		told[round] = text.String()
	}
	if told[0] != told[1] {
		t.Error("answers differ")
	}
}
