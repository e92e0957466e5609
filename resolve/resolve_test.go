package resolve_test

import (
	"fmt"
	"slices"
	"strings"
	"testing"

	"verger/api"
	"verger/dn"
	"verger/entry"
	"verger/resolve"
)

// attr makes an attribute.
func attr(typ string, values ...string) api.Attr {
	return api.Attr{Type: typ, Values: values}
}

// plain makes a formed entry of that name, with these attributes and what its
// name's first part says.
func plain(name string, more ...api.Attr) api.Entry {
	n, err := dn.Parse(name)
	if err != api.OK {
		panic(name)
	}
	attrs := append([]api.Attr{attr("objectClass", "top")}, more...)
	for _, pair := range n.Parts[0] {
		attrs = append(attrs, attr(pair.Type, pair.Value))
	}
	e, code := entry.Make(name, attrs)
	if code != api.Success {
		panic(name)
	}
	return e
}

// alias makes one of these that leads to the target.
func alias(name, target string) api.Entry {
	return plain(name, attr("objectClass", "alias"), attr("aliasedObjectName", target))
}

// show tells entries, or their beginning.
func show(list []api.Entry) string {
	return fmt.Sprintf("%.600q", fmt.Sprintf("%q", list))
}

// holdStep holds Step to a name, and whether an alias leads to it.
func holdStep(t *testing.T, list []api.Entry, name, want string, led bool) {
	t.Helper()
	if got, ok, code := resolve.Step(list, name); got != want || ok != led || code != api.Success {
		t.Errorf("Step(%s, %.300q): %q, %v, %d, not %q, %v", show(list), name, got, ok, code, want, led)
	}
}

// holdNoStep holds Step to a code.
func holdNoStep(t *testing.T, list []api.Entry, name string, want int) {
	t.Helper()
	// R5: beside it the others are zero.
	if got, ok, code := resolve.Step(list, name); got != "" || ok || code != want {
		t.Errorf("Step(%s, %.300q): %q, %v, %d, not %d", show(list), name, got, ok, code, want)
	}
}

// holdFind holds Find to a name, and whether it was followed to it.
func holdFind(t *testing.T, list []api.Entry, name string, follow bool, want string, followed bool) {
	t.Helper()
	if got, ok, code := resolve.Find(list, name, follow); got != want || ok != followed || code != api.Success {
		t.Errorf("Find(%s, %.300q, %v): %q, %v, %d, not %q, %v", show(list), name, follow, got, ok, code, want, followed)
	}
}

// holdNoFind holds Find to a code.
func holdNoFind(t *testing.T, list []api.Entry, name string, follow bool, want int) {
	t.Helper()
	// R5: beside it the others are zero.
	if got, ok, code := resolve.Find(list, name, follow); got != "" || ok || code != want {
		t.Errorf("Find(%s, %.300q, %v): %q, %v, %d, not %d", show(list), name, follow, got, ok, code, want)
	}
}

// P13.2: the chapter's examples.
func TestExamples(t *testing.T) {
	al, b, x := alias("cn=al", "ou=b"), plain("ou=b"), plain("cn=x,ou=b")
	holdFind(t, []api.Entry{al, b, x}, "cn=x,cn=al", true, "cn=x,ou=b", true)
	holdNoFind(t, []api.Entry{al, b}, "cn=x,cn=al", true, api.AliasProblem)
	self := alias("cn=al", "cn=al")
	for _, name := range []string{"cn=al", "cn=x,cn=al"} {
		holdNoFind(t, []api.Entry{self, b, x}, name, true, api.AliasDereferencing)
	}
}

// noNames are texts without a normal text.
func noNames() []string {
	return []string{
		" ", ",", "x", "cn=", "=a", "cn=a,", ",cn=a", "cn=a, dc=x", "sn=a", "cn=a+cn=b", `cn=a\`, "cn=\x00", "position=i", "*",
		strings.Repeat("cn=a,", api.MaxRDNs) + "cn=a", "cn=" + strings.Repeat("a", api.MaxText), strings.Repeat("dc=x,", 100000),
		// Its normal text is longer than it is.
		"cn=" + strings.Repeat("\x80", 200) + ",cn=" + strings.Repeat("\x80", 200),
	}
}

// P13.1, P13.2: what has no normal text is told ahead of all else.
func TestNoName(t *testing.T) {
	for _, list := range [][]api.Entry{nil, {plain("cn=a")}, {alias("cn=a", "cn=b"), alias("dc=x", "dc=x")}} {
		for _, name := range noNames() {
			holdNoStep(t, list, name, api.InvalidDNSyntax)
			holdNoFind(t, list, name, false, api.InvalidDNSyntax)
			holdNoFind(t, list, name, true, api.InvalidDNSyntax)
		}
	}
}

// P13.1: without an alias that leads it, a name stays, in its normal text.
func TestStepStays(t *testing.T) {
	for _, list := range [][]api.Entry{
		nil, {}, {plain("dc=x"), plain("cn=a,dc=x"), plain("cn=c,cn=a,dc=x")},
		// These are below it, or beside it, or are so by their texts alone.
		{alias("cn=c,cn=a,dc=x", "cn=b"), alias("cn=a,dc=y", "cn=b"), alias("cn=b,dc=x", "cn=b"), alias("cn=a", "cn=b")},
		{alias(`cn=c\,cn=a,dc=x`, "cn=b"), alias(`cn=a\,dc=x`, "cn=b"), alias("cn=a,dc=x,dc=x", "cn=b"), alias("dc=xx", "cn=b"), alias("cn=a+dc=x", "cn=b")},
	} {
		for _, written := range []string{"cn=a,dc=x", "CN=A,DC=X", `cn=\61,Dc=\ x\ `} {
			holdStep(t, list, written, "cn=a,dc=x", false)
		}
		holdStep(t, list, "", "", false)
		holdStep(t, list, `CN=B\,cn=A`, `cn=b\,cn=a`, false)
		holdStep(t, list, `cn=B\,cn=a,DC=X`, `cn=b\,cn=a,dc=x`, false)
		holdStep(t, list, "OU=B+CN=A,dc=x", "cn=a+ou=b,dc=x", false)
	}
	holdStep(t, []api.Entry{alias("dc=x", "dc=y")}, `CN=A\,dc=x`, `cn=a\,dc=x`, false)
	holdStep(t, []api.Entry{alias("cn=a", "dc=y")}, "cn=a+ou=b", "cn=a+ou=b", false)
}

// P13.1: what is under an alias comes under its target, once.
func TestStepLeads(t *testing.T) {
	list := []api.Entry{plain("dc=x"), alias("ou=b,dc=x", "OU=C,dc=\\59"), plain("ou=c,dc=y"), alias("ou=d", "cn=e,ou=b,dc=x")}
	for name, want := range map[string]string{
		"ou=b,dc=x":             "ou=c,dc=y",
		"OU=B,DC=X":             "ou=c,dc=y",
		"cn=a,ou=b,dc=x":        "cn=a,ou=c,dc=y",
		`CN=\41,ou=f,ou=b,dc=x`: "cn=a,ou=f,ou=c,dc=y",
		`cn=a\,ou=f,ou=b,dc=x`:  `cn=a\,ou=f,ou=c,dc=y`,
		// It leads to where another alias would lead on.
		"cn=a,ou=d": "cn=a,cn=e,ou=b,dc=x",
	} {
		holdStep(t, list, name, want, true)
		// Nothing hangs on what is at the target.
		holdStep(t, []api.Entry{list[3], list[1]}, name, want, true)
	}
	// One may lead to itself, and to above or below itself.
	for target, want := range map[string]string{"ou=b": "cn=a,ou=b", "dc=y,ou=b": "cn=a,dc=y,ou=b"} {
		holdStep(t, []api.Entry{alias("ou=b", target)}, "cn=a,ou=b", want, true)
	}
	holdStep(t, []api.Entry{alias("ou=b,dc=x", "dc=x")}, "ou=b,dc=x", "dc=x", true)
}

// P13.1: of several aliases the highest leads, wherever it stands, and of alike
// ones the first.
func TestStepWhich(t *testing.T) {
	low, mid, high := alias("cn=a,ou=b,dc=x", "cn=low"), alias("ou=b,dc=x", "cn=mid"), alias("dc=x", "cn=high")
	for _, list := range [][]api.Entry{{low, mid, high}, {high, mid, low}, {mid, high, low}, {low, high, mid}} {
		holdStep(t, list, "cn=a,ou=b,dc=x", "cn=a,ou=b,cn=high", true)
		holdStep(t, slices.DeleteFunc(slices.Clone(list), func(e api.Entry) bool { return e.Name == "dc=x" }), "cn=a,ou=b,dc=x", "cn=a,cn=mid", true)
	}
	// What is above it and no alias doesn't matter.
	holdStep(t, []api.Entry{plain("dc=x"), plain("ou=b,dc=x"), low}, "cn=a,ou=b,dc=x", "cn=low", true)
	other := alias("ou=b,dc=x", "cn=other")
	holdStep(t, []api.Entry{low, mid, other}, "cn=a,ou=b,dc=x", "cn=a,cn=mid", true)
	holdStep(t, []api.Entry{other, low, mid}, "cn=a,ou=b,dc=x", "cn=a,cn=other", true)
	// The first of those that are aliases.
	holdStep(t, []api.Entry{plain("ou=b,dc=x"), other, mid}, "ou=b,dc=x", "cn=other", true)
	// Under the root's name is every name, were an alias there.
	top := api.Entry{Attrs: []api.Attr{attr("aliasedObjectName", "dc=y"), attr("objectClass", "alias")}}
	holdStep(t, []api.Entry{low, high, top}, "cn=a,ou=b,dc=x", "cn=a,ou=b,dc=x,dc=y", true)
	holdStep(t, []api.Entry{high, top}, "", "dc=y", true)
}

// P13.1: an alias is what layer 9 tells to be one, of what the view shows.
func TestStepAlias(t *testing.T) {
	target, class := attr("aliasedObjectName", "OU=B", "ou=c"), attr("objectClass", "top", "ALIAS")
	for _, attrs := range [][]api.Attr{{target, attr("cn", "a"), class}, {target, class}, {attr("aliasedObjectName", "ou=b"), attr("objectClass", "alias", "person")}} {
		list := []api.Entry{{Name: "cn=a", Attrs: attrs}}
		holdStep(t, list, "cn=a", "ou=b", true)
		holdStep(t, list, "cn=x,cn=a", "cn=x,ou=b", true)
	}
	for _, attrs := range [][]api.Attr{
		nil, {target}, {class}, {attr("cn", "a"), class}, {target, attr("objectClass", "aliases")}, {target, attr("cn", "alias"), attr("objectClass", "top")},
		{attr("aliasedObjectName"), class}, {attr("aliasedObjectName", ""), class}, {attr("aliasedObjectName", "b", "ou=b"), class}, {attr("member", "ou=b"), class},
	} {
		list := []api.Entry{{Name: "cn=a", Attrs: attrs}}
		holdStep(t, list, "cn=a", "cn=a", false)
		holdFind(t, list, "cn=a", true, "cn=a", false)
		holdNoFind(t, list, "cn=x,cn=a", true, api.NoSuchObject)
	}
}

// rising makes a text of a name of so many parts.
func rising(parts int) string {
	var list []string
	for i := range parts {
		list = append(list, fmt.Sprintf("cn=%d", i))
	}
	return strings.Join(list, ",")
}

// sized makes the normal text of a name of five parts that has so many bytes.
func sized(bytes int) string {
	head := strings.Repeat("cn="+strings.Repeat("a", 195)+",", 4)
	return head + "cn=" + strings.Repeat("a", bytes-len(head)-3)
}

// P13.1, P13.2: a name that would have too many parts, or too long a text.
func TestStepTooLong(t *testing.T) {
	list := []api.Entry{alias("dc=x", "cn=p,cn=q")}
	most := rising(api.MaxRDNs - 2)
	holdStep(t, list, most+",dc=x", most+",cn=p,cn=q", true)
	holdNoStep(t, list, rising(api.MaxRDNs-1)+",dc=x", api.AliasProblem)
	holdNoFind(t, list, rising(api.MaxRDNs-1)+",dc=x", true, api.AliasProblem)
	// It is not followed, so it isn't asked.
	holdFind(t, append(list, plain("cn=a")), "cn=a", true, "cn=a", false)
	holdNoFind(t, list, rising(api.MaxRDNs-1)+",dc=x", false, api.NoSuchObject)

	// The target has 5 bytes more than the alias's own name.
	full := sized(api.MaxText - 10)
	holdStep(t, list, full+",dc=x", full+",cn=p,cn=q", true)
	long := sized(api.MaxText - 9)
	holdNoStep(t, list, long+",dc=x", api.AliasProblem)
	holdNoFind(t, append(list, plain(long+",dc=x")), long+",dc=x", true, api.AliasProblem)
	holdFind(t, append(list, plain(long+",dc=x")), long+",dc=x", false, long+",dc=x", false)
}

// P13.2: a name that isn't to be followed is the root's, or an entry's, itself.
func TestFindAsItIs(t *testing.T) {
	list := []api.Entry{plain("dc=x"), alias("cn=al,dc=x", "cn=b,dc=x"), plain("cn=b,dc=x"), alias("cn=no,dc=x", "cn=c"), alias("cn=self,dc=x", "cn=self,dc=x"), plain("cn=x,cn=self,dc=x")}
	for _, e := range list {
		holdFind(t, list, e.Name, false, e.Name, false)
		holdFind(t, list, strings.ToUpper(e.Name), false, e.Name, false)
	}
	for _, name := range []string{"cn=c", "dc=y", "cn=a,dc=x", "cn=a,cn=al,dc=x", "cn=x,cn=no,dc=x", "cn=b", "cn=al", `cn=al\,dc=x`} {
		holdNoFind(t, list, name, false, api.NoSuchObject)
	}
	for _, follow := range []bool{false, true} {
		holdFind(t, list, "", follow, "", false)
		holdFind(t, nil, "", follow, "", false)
		holdNoFind(t, nil, "dc=x", follow, api.NoSuchObject)
		// Of alike entries either is found.
		holdFind(t, append(list, list...), "DC=X", follow, "dc=x", false)
	}
}

// P13.2: a name that is to be followed goes as far as aliases lead.
func TestFindFollowed(t *testing.T) {
	list := []api.Entry{
		plain("dc=x"), plain("ou=b,dc=x"), plain("cn=a,ou=b,dc=x"), alias("ou=c,dc=x", "OU=B,dc=X"), alias("cn=d,ou=b,dc=x", "ou=c,dc=x"),
		alias("cn=no,dc=x", "cn=e,dc=x"), alias("cn=far,dc=x", "cn=no,dc=x"), alias("dc=w", "cn=g,ou=c,dc=x"), plain("cn=a,dc=w"),
	}
	for name, want := range map[string]string{
		"ou=c,dc=x":           "ou=b,dc=x",
		"OU=C,DC=X":           "ou=b,dc=x",
		"cn=a,ou=c,dc=x":      "cn=a,ou=b,dc=x",
		"cn=d,ou=b,dc=x":      "ou=b,dc=x",
		"cn=d,ou=c,dc=x":      "ou=b,dc=x",
		"cn=a,cn=d,ou=b,dc=x": "cn=a,ou=b,dc=x",
		"CN=A,cn=d,ou=c,dc=x": "cn=a,ou=b,dc=x",
		// Twice each way.
		"cn=a,cn=d,cn=d,ou=c,dc=x": "cn=a,ou=b,dc=x",
	} {
		holdFind(t, list, name, true, want, true)
		holdNoFind(t, list[3:], name, true, api.AliasProblem)
	}
	for _, name := range []string{"", "dc=x", "ou=b,dc=x", "CN=A,ou=b,dc=x"} {
		want, _ := dn.Normal(name)
		holdFind(t, list, name, true, want, false)
	}
	for _, name := range []string{"dc=y", "cn=e,dc=x", "ou=f,ou=b,dc=x"} {
		holdNoFind(t, list, name, true, api.NoSuchObject)
	}
	// The name is led away, though an entry of it is there.
	for _, name := range []string{"cn=no,dc=x", "cn=far,dc=x", "cn=f,ou=c,dc=x", "dc=w", "cn=a,dc=w", "cn=a,cn=far,dc=x"} {
		holdNoFind(t, list, name, true, api.AliasProblem)
	}
}

// chain makes so many aliases, each of which leads to the next one's name, the
// last one to an entry cn=end.
func chain(length int) []api.Entry {
	list := []api.Entry{plain("cn=end")}
	for i := range length {
		target := fmt.Sprintf("CN=S%d", i+1)
		if i == length-1 {
			target = "cn=end"
		}
		list = append(list, alias(fmt.Sprintf("cn=s%d", i), target))
	}
	return list
}

// P13.2: a name is followed 16 times, and not a 17th time.
func TestFindOften(t *testing.T) {
	for length := 1; length <= 30; length++ {
		list := chain(length)
		for _, order := range []func([]api.Entry){func([]api.Entry) {}, slices.Reverse[[]api.Entry]} {
			order(list)
			for from := range length {
				name := fmt.Sprintf("CN=s%d", from)
				if length-from > 16 {
					holdNoFind(t, list, name, true, api.AliasDereferencing)
					holdNoFind(t, list, "cn=x,"+name, true, api.AliasDereferencing)
					continue
				}
				holdFind(t, list, name, true, "cn=end", true)
				holdNoFind(t, list, "cn=x,"+name, true, api.AliasProblem)
				holdFind(t, append(list, plain("cn=x,cn=end")), "cn=x,"+name, true, "cn=x,cn=end", true)
			}
		}
	}
}

// P13.2: the 17th time counts whatever it would come to; but, named first, that
// it can come to nothing.
func TestFindOftenAndMore(t *testing.T) {
	list := append(chain(16), alias("cn=t", "cn=s0"))
	deep := rising(api.MaxRDNs-1) + ","
	holdFind(t, append(list, plain(deep+"cn=end")), deep+"cn=s0", true, deep+"cn=end", true)
	holdNoFind(t, list, deep+"cn=s0", true, api.AliasProblem)
	holdNoFind(t, append(list, plain(deep+"cn=end")), deep+"cn=t", true, api.AliasDereferencing)
	// After 16 times it is under an alias that leads too deep.
	list[0] = alias("cn=end", "cn=p,cn=q")
	holdNoFind(t, list, deep+"cn=s0", true, api.AliasProblem)
	holdNoFind(t, list, deep+"cn=s1", true, api.AliasProblem)
	holdNoFind(t, list, deep+"cn=t", true, api.AliasDereferencing)
	holdNoFind(t, list, "cn=s0", true, api.AliasDereferencing)
	holdNoFind(t, list, "cn=s1", true, api.AliasProblem)
	holdFind(t, append(list, plain("cn=p,cn=q")), "cn=s1", true, "cn=p,cn=q", true)
}

// ring makes so many aliases that lead around.
func ring(length int) []api.Entry {
	var list []api.Entry
	for i := range length {
		list = append(list, alias(fmt.Sprintf("cn=r%d", i), fmt.Sprintf("CN=\\52%d", (i+1)%length)))
	}
	return list
}

// P13.2: no name comes a second time.
func TestFindAround(t *testing.T) {
	for length := 1; length <= 20; length++ {
		// One leads to the ring from outside.
		list := append(ring(length), alias("ou=o", "cn=r0"), plain("ou=p"))
		for i := range length {
			name := fmt.Sprintf("cn=r%d", i)
			holdNoFind(t, list, name, true, api.AliasDereferencing)
			holdNoFind(t, list, "ou=b,"+strings.ToUpper(name), true, api.AliasDereferencing)
			holdFind(t, list, name, false, name, false)
		}
		holdNoFind(t, list, "ou=o", true, api.AliasDereferencing)
		holdNoFind(t, list, "cn=a,ou=o", true, api.AliasDereferencing)
		holdFind(t, list, "ou=p", true, "ou=p", false)
	}
	// It comes again by another alias than the one that led away from it.
	list := []api.Entry{alias("ou=b", "cn=a,ou=c"), alias("ou=c", "ou=d"), alias("cn=a,ou=d", "ou=b"), plain("cn=a,ou=c")}
	for _, name := range []string{"ou=b", "cn=a,ou=c", "cn=a,ou=d", "cn=x,cn=a,ou=d"} {
		holdNoFind(t, list, name, true, api.AliasDereferencing)
	}
	holdNoFind(t, list, "ou=c", true, api.AliasProblem)
	// An alias that leads below itself makes the name longer each time.
	holdNoFind(t, []api.Entry{alias("ou=b", "cn=a,ou=b")}, "ou=b", true, api.AliasProblem)
	// One that leads above itself makes it shorter.
	up := []api.Entry{plain("dc=x"), alias("ou=b,dc=x", "dc=x")}
	holdFind(t, up, strings.Repeat("ou=b,", api.MaxRDNs-1)+"dc=x", true, "dc=x", true)
}

// R1, R2: whatever comes, each call ends, and answers the same again.
func TestAgain(t *testing.T) {
	class := attr("objectClass", "alias")
	odd := []api.Entry{
		{}, {Name: "x"}, {Name: "CN=A", Attrs: []api.Attr{class, attr("aliasedObjectName", "cn=b")}}, {Name: ",", Attrs: []api.Attr{class, class}},
		{Name: "cn=a", Attrs: []api.Attr{class, attr("aliasedObjectName", "")}}, {Name: "", Attrs: []api.Attr{class, attr("aliasedObjectName", "cn=b")}},
		{Name: strings.Repeat("cn=a,", 1000), Attrs: make([]api.Attr, 1000)}, alias("cn=z", "cn=z"),
	}
	lists := [][]api.Entry{nil, odd, make([]api.Entry, 100000), chain(300), ring(300)}
	names := append(noNames(), "", "cn=a", "cn=s0", "cn=r0", "cn=z,cn=z", rising(api.MaxRDNs), "\xff", `\`)
	var told [2]string
	for round := range told {
		var text strings.Builder
		for _, list := range lists {
			for _, name := range names {
				next, ok, code := resolve.Step(list, name)
				fmt.Fprintf(&text, "%q %v %d ", next, ok, code)
				for _, follow := range []bool{false, true} {
					end, ok, code := resolve.Find(list, name, follow)
					fmt.Fprintf(&text, "%q %v %d ", end, ok, code)
				}
			}
		}
		told[round] = text.String()
	}
	if told[0] != told[1] {
		t.Error("answers differ")
	}
}
