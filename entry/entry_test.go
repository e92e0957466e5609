package entry_test

import (
	"fmt"
	"slices"
	"strings"
	"testing"
	"unsafe"

	"verger/api"
	"verger/dn"
	"verger/entry"
)

// attr makes an attribute.
func attr(typ string, values ...string) api.Attr {
	return api.Attr{Type: typ, Values: values}
}

// of makes an entry.
func of(name string, attrs ...api.Attr) api.Entry {
	return api.Entry{Name: name, Attrs: attrs}
}

// with makes an entry of the name cn=a,dc=x that has what it needs, and more
// behind it.
func with(more ...api.Attr) api.Entry {
	return of("cn=a,dc=x", append([]api.Attr{attr("cn", "a"), attr("objectClass", "person")}, more...)...)
}

// show tells an entry, or its beginning.
func show(e api.Entry) string {
	return fmt.Sprintf("%.300q", fmt.Sprintf("%q", e))
}

// again makes new memory of an entry.
func again(e api.Entry) api.Entry {
	attrs := slices.Clone(e.Attrs)
	for i := range attrs {
		attrs[i].Values = slices.Clone(attrs[i].Values)
	}
	return api.Entry{Name: e.Name, Attrs: attrs}
}

// isZero tells whether an entry is none (R5).
func isZero(e api.Entry) bool {
	return e.Name == "" && len(e.Attrs) == 0
}

// numbered are so many values, no two alike; each is a type's of syntax 1 to 3.
func numbered(count int) []string {
	var values []string
	for i := range count {
		values = append(values, fmt.Sprint(i))
	}
	return values
}

// allTypes are the types' names, rising byte by byte.
func allTypes() []string {
	return []string{"aliasedObjectName", "cn", "dc", "description", "mail", "member", "o", "objectClass", "ou", "position", "ref", "serialNumber", "uid", "userPassword"}
}

// fullest is an entry with as many attributes, and values of each, as may be.
func fullest() api.Entry {
	e := api.Entry{Name: "cn=0,dc=x"}
	for _, typ := range allTypes() {
		values := numbered(api.MaxValues)
		if typ == "aliasedObjectName" || typ == "member" {
			for i := range values {
				values[i] = "CN=" + values[i]
			}
		}
		e.Attrs = append(e.Attrs, api.Attr{Type: typ, Values: values})
	}
	return e
}

// longValue has as many bytes as a value may have.
func longValue() string {
	return strings.Repeat("a", api.MaxValue)
}

// longName is a normal text of just so many bytes, of which the first part is
// cn=a.
func longName(size int) string {
	name := "cn=a"
	for size-len(name) > 300 {
		name += ",ou=" + strings.Repeat("b", 196)
	}
	for size-len(name) > 200 {
		name += ",ou=" + strings.Repeat("b", 96)
	}
	return name + ",ou=" + strings.Repeat("b", size-len(name)-len(",ou="))
}

// deepName is a normal text of so many parts, of which the first is cn=a.
func deepName(parts int) string {
	return "cn=a" + strings.Repeat(",ou=b", parts-1)
}

// formed are formed entries. They are made anew at each call.
func formed() []api.Entry {
	cn, class := attr("cn", "a"), attr("objectClass", "person")
	return []api.Entry{
		with(),
		of("dc=x", attr("dc", "X"), attr("objectClass", "top")),
		of("cn=ann lee,dc=x", attr("cn", " Ann  LEE ", "b"), class),
		of("cn=ann lee,dc=x", attr("cn", "b", "ANN LEE"), class),
		of("objectClass=top", attr("objectClass", "Top")),
		of("cn=a+ou=b+uid=c,o=y", attr("cn", "A"), class, attr("ou", "c", "B"), attr("uid", "C")),
		of("serialNumber=-7", class, attr("serialNumber", "7", "-7")),
		of("cn=a+serialNumber=0", cn, class, attr("serialNumber", "0")),
		of(`cn=a\,b,dc=x`, attr("cn", "a,b"), class),
		of(`cn=\c3\89,dc=x`, attr("cn", "É"), class),
		of(`cn=\#a,dc=x`, attr("cn", "#a"), class),
		with(attr("userPassword", "\x00", " ", "A", "a")),
		with(attr("position", "3-i", "-3+i", "i", "0")),
		with(attr("serialNumber", "999999999999999999", "-999999999999999999")),
		with(attr("ou", "a b", "ab", "a, b")),
		of("cn=a,dc=x", attr("aliasedObjectName", "ou=b"), cn, attr("member", "cn=a", "cn=a,dc=x", "dc=x,cn=a"), class),
		of("cn=a,dc=x", cn, attr("description", longValue()), class),
		of("cn=a,dc=x", cn, attr("member", "cn="+strings.Repeat("\xff", 100), "cn=b"), class),
		of("cn="+longValue(), attr("cn", longValue()), class),
		of("cn="+strings.Repeat(`\ff`, api.MaxValue), attr("cn", strings.Repeat("\xff", api.MaxValue)), class),
		of(longName(api.MaxText), cn, class),
		of(deepName(api.MaxRDNs), cn, class),
		fullest(),
	}
}

// unformed are entries that aren't formed, each for one thing.
func unformed() []api.Entry {
	cn, class := attr("cn", "a"), attr("objectClass", "person")
	list := []api.Entry{
		{}, of("", cn, class), of("cn=a,dc=x"), of("cn=a,dc=x", class), of("cn=a,dc=x", cn),
		// Pairs that aren't there.
		of("cn=a,dc=x", attr("cn", "b"), class), of("cn=a,dc=x", class, attr("uid", "a")), of("ou=a,cn=a", cn, class),
		of("cn=a+ou=b", cn, class), of("cn=a+ou=b", cn, class, attr("ou", "a")), of("cn=a+ou=b", attr("cn", "b"), class, attr("ou", "b")),
		of("cn=a+ou=b+uid=c", cn, class, attr("ou", "b"), attr("uid", "b")), of("serialNumber=7", class, attr("serialNumber", "-7")),
		of("cn=a b,dc=x", attr("cn", "ab"), class), of("objectClass=top", class),
		// The order of types.
		of("cn=a,dc=x", class, cn), of("cn=a,dc=x", cn, cn, class), of("cn=a,dc=x", cn, class, class), of("cn=a,dc=x", cn, attr("cn", "b"), class),
		with(attr("o", "c")), with(attr("uid", "c"), attr("ou", "b")), with(attr("member", "cn=a")), with(attr("uid", "c"), attr("uid", "d")),
		// Types.
		of("cn=a,dc=x", attr("CN", "a"), class), of("cn=a,dc=x", cn, attr("objectclass", "person")), of("cn=a,dc=x", cn, attr("OBJECTCLASS", "person")),
		of("cn=a,dc=x", attr("", "a"), cn, class), of("cn=a,dc=x", attr("c", "a"), cn, class), with(attr("sn", "a")), with(attr("Ou", "b")), with(attr("ou ", "b")), with(attr("userpassword", "b")),
		// How many values.
		of("cn=a,dc=x", api.Attr{Type: "cn"}, class), of("cn=a,dc=x", cn, api.Attr{Type: "objectClass", Values: []string{}}), with(attr("ou")), with(attr("ou", numbered(api.MaxValues+1)...)),
		// Values without a normal form.
		with(attr("ou", "")), with(attr("ou", " ")), with(attr("ou", "b", "\x00")), with(attr("ou", "b", "", "c")), with(attr("ou", longValue()+"a")), with(attr("ou", " "+longValue())),
		with(attr("ref", "")), with(attr("ref", longValue()+"a")), with(attr("serialNumber", "07")), with(attr("serialNumber", "7", "x")), with(attr("serialNumber", "1000000000000000000")),
		with(attr("position", "1i")), with(attr("position", "1000001")), of("cn=a,dc=x", cn, attr("member", "a"), class), of("cn=a,dc=x", cn, attr("member", ""), class), of("cn=a,dc=x", attr("aliasedObjectName", "cn=a, b"), cn, class),
		// Values that are alike.
		of("cn=a,dc=x", attr("cn", "a", "A"), class), of("cn=a,dc=x", cn, attr("objectClass", "person", "top", "PERSON")), with(attr("ou", "b", "c", "b")), with(attr("ou", " a  b", "A B")),
		with(attr("userPassword", "a", "b", "a")), with(attr("serialNumber", "7", "8", "7")), with(attr("position", "i", "i")), of("cn=a,dc=x", cn, attr("member", "cn=a,dc=x", `CN=\61,DC=x`), class),
	}
	// Names that aren't a normal text, though all else is as it should be.
	for _, name := range []string{"CN=a,dc=x", "cn=A,dc=x", "cn=a,DC=x", "cn=a,dc=X", `cn=\61,dc=x`, `cn=a\ ,dc=x`, `cn=a,dc=x\ `, "cn=a, dc=x", "cn=a,", "cn=a,sn=x", "a", "cn=a+cn=a", " ",
		"ou=b+cn=a", "cn=a,ou=b+dc=x", longName(api.MaxText + 1), deepName(api.MaxRDNs + 1), "\x00cn=a"} {
		list = append(list, of(name, cn, class), of(name, cn, class, attr("ou", "b")))
	}
	return list
}

// P9.1: what is formed, and what isn't.
func TestFormed(t *testing.T) {
	for _, e := range formed() {
		if !entry.Formed(e) {
			t.Errorf("not formed: %s", show(e))
		}
	}
	for _, e := range unformed() {
		if entry.Formed(e) {
			t.Errorf("formed: %s", show(e))
		}
	}
	over := fullest()
	over.Attrs = append(over.Attrs, attr("userPassword", "a"))
	more := fullest()
	more.Attrs[9].Values = numbered(api.MaxValues + 1)
	for _, e := range []api.Entry{over, more} {
		if entry.Formed(e) {
			t.Errorf("formed: %s", show(e))
		}
	}
	if n := len(fullest().Attrs); n != api.MaxAttrs {
		t.Errorf("there are %d types", n)
	}
}

// P9.1: Same is of all that an entry has, formed or not, as it is written; a
// list of none is one, be it nil or empty (R4).
func TestSame(t *testing.T) {
	for i, e := range slices.Concat(formed(), unformed()) {
		if !entry.Same(e, again(e)) {
			t.Errorf("not the same as itself: %s", show(e))
		}
		for j, other := range formed() {
			if entry.Same(e, other) != (i == j) || entry.Same(other, e) != (i == j) {
				t.Errorf("the same, or not: %s, %s", show(e), show(other))
			}
		}
	}
	e := with(attr("ou", "b", "c"))
	for _, other := range []api.Entry{
		{}, with(), with(attr("ou", "b")), with(attr("ou", "c", "b")), with(attr("ou", "b", "C")), with(attr("ou", "b", "c", "d")), with(attr("ou", "b", " c")),
		with(attr("OU", "b", "c")), with(attr("uid", "b", "c")), with(attr("ou", "b", "c"), attr("uid", "d")), with(attr("ou", "b"), attr("ou", "c")), with(attr("ou", "b c")),
		of("CN=a,dc=x", e.Attrs...), of("cn=a", e.Attrs...), of("", e.Attrs...), of("cn=a,dc=x", e.Attrs[0], e.Attrs[2], e.Attrs[1]), of("cn=a,dc=x", e.Attrs[1:]...),
	} {
		if entry.Same(e, other) || entry.Same(other, e) {
			t.Errorf("the same: %s, %s", show(e), show(other))
		}
	}
	if !entry.Same(api.Entry{}, of("", []api.Attr{}...)) || !entry.Same(of("a", attr("")), of("a", attr("", []string{}...))) {
		t.Error("nil and empty aren't the same")
	}
	if !entry.Same(api.Entry{Attrs: []api.Attr{}}, api.Entry{}) {
		t.Error("nil and empty aren't the same")
	}
}

// P9.1: the values of a type, whose name may be in any case.
func TestValues(t *testing.T) {
	e := with(attr("ou", "B", "c  C"), attr("uid", "d"))
	for name, want := range map[string][]string{
		"ou": {"B", "c  C"}, "OU": {"B", "c  C"}, "oU": {"B", "c  C"}, "uid": {"d"}, "Cn": {"a"}, "objectclass": {"person"}, "OBJECTCLASS": {"person"},
		"o": nil, "member": nil, "sn": nil, "": nil, "ou ": nil, "c": nil, "cnn": nil, "\u212a": nil,
	} {
		if got := entry.Values(e, name); !slices.Equal(got, want) {
			t.Errorf("Values(%q): %q, not %q", name, got, want)
		}
	}
	full := fullest()
	for i, typ := range allTypes() {
		for _, name := range []string{typ, strings.ToUpper(typ), strings.ToLower(typ)} {
			if got := entry.Values(full, name); !slices.Equal(got, full.Attrs[i].Values) {
				t.Errorf("Values(%q): %q", name, got)
			}
			if got := entry.Values(api.Entry{}, name); len(got) > 0 {
				t.Errorf("Values(%q) of nothing: %q", name, got)
			}
		}
	}
}

// P9.1: of an entry that isn't formed the first attribute of the type counts,
// if it is named as layer 4 tells it.
func TestValuesOfUnformed(t *testing.T) {
	e := of("", attr("sn", "s"), attr("", "none"), attr("CN", "great"), attr("ou"), attr("cn", "", "A"), attr("ou", "b"), attr("cn", "c"))
	for name, want := range map[string][]string{"cn": {"", "A"}, "CN": {"", "A"}, "ou": nil, "sn": nil, "": nil, "SN": nil, "dc": nil} {
		if got := entry.Values(e, name); !slices.Equal(got, want) {
			t.Errorf("Values(%q): %q, not %q", name, got, want)
		}
	}
	for _, c := range []struct {
		name, value string
		want        bool
	}{{"cn", "a", true}, {"cn", "c", false}, {"cn", "great", false}, {"ou", "b", false}, {"sn", "s", false}, {"", "none", false}, {"cn", "", false}} {
		if got := entry.Has(e, c.name, c.value); got != c.want {
			t.Errorf("Has(%q, %q): %v", c.name, c.value, got)
		}
	}
}

// P9.1: whether a value is alike one, of each syntax.
func TestHas(t *testing.T) {
	e := with(attr("member", "CN=A  b,dc=x", "bad"), attr("mail", "Ann  LEE", "", "b"), attr("position", "3+4i", "1i"), attr("ref", "A b", ""), attr("serialNumber", "10", "07"))
	for _, c := range []struct {
		name, value string
		want        bool
	}{
		{"mail", "ann lee", true}, {"MAIL", "  ANN   lee ", true}, {"mail", "B", true}, {"mail", "annlee", false}, {"mail", "ann", false}, {"mail", "", false}, {"mail", " ", false}, {"mail", "c", false}, {"mail", longValue() + "a", false},
		{"ref", "A b", true}, {"ref", "a b", false}, {"ref", "A  b", false}, {"ref", "", false}, {"serialNumber", "10", true}, {"SERIALNUMBER", "10", true}, {"serialNumber", "07", false}, {"serialNumber", "7", false}, {"serialNumber", "010", false},
		{"position", "3+4i", true}, {"position", "5", false}, {"position", "1i", false}, {"position", "i", false}, {"member", "cn=a b,DC=X", true}, {"member", `cn=\61 b,dc=x`, true}, {"member", "cn=ab,dc=x", false}, {"member", "bad", false}, {"member", "", false},
		{"cn", "A", true}, {"objectClass", "PERSON", true}, {"objectclass", "top", false}, {"ou", "ann lee", false}, {"sn", "a", false}, {"", "a", false}, {"", "", false},
	} {
		if got := entry.Has(e, c.name, c.value); got != c.want {
			t.Errorf("Has(%q, %q): %v", c.name, c.value, got)
		}
		if entry.Has(api.Entry{}, c.name, c.value) {
			t.Errorf("Has(%q, %q) of nothing", c.name, c.value)
		}
	}
	full := fullest()
	for _, a := range full.Attrs {
		for _, value := range a.Values {
			if !entry.Has(full, strings.ToUpper(a.Type), value) || entry.Has(full, a.Type, value+"x") {
				t.Errorf("Has(%q, %q)", a.Type, value)
			}
		}
	}
}

// P9.1: aliases and their targets.
func TestAlias(t *testing.T) {
	class, target := attr("objectClass", "alias"), attr("aliasedObjectName", `OU=B  b,DC=\58`)
	long := "cn=" + strings.Repeat("\xff", 100)
	for _, c := range []struct {
		e      api.Entry
		target string
		is     bool
	}{
		{of("cn=a", target, attr("cn", "a"), class), "ou=b b,dc=x", true},
		{of("cn=a", target, attr("cn", "a"), attr("objectClass", "top", "  ALIAS ")), "ou=b b,dc=x", true},
		{of("cn=a", attr("aliasedObjectName", "cn=z", "cn=b"), attr("cn", "a"), class), "cn=z", true},
		{of("cn=a", attr("aliasedObjectName", long), attr("cn", "a"), class), "cn=" + strings.Repeat(`\ff`, 100), true},
		{of("cn=a", attr("cn", "a"), class), "", false},
		{of("cn=a", target, attr("cn", "alias"), attr("objectClass", "person", "aliases", "alia s")), "", false},
		{of("cn=a", attr("cn", "a"), attr("member", "cn=b"), class), "", false},
		{of("cn=a", target), "", false}, {of("cn=a"), "", false}, {api.Entry{}, "", false},
		// Entries that aren't formed.
		{of("", target, class), "ou=b b,dc=x", true}, {of("x", class, target, attr("aliasedObjectName", "cn=c")), "ou=b b,dc=x", true},
		{of("", attr("aliasedObjectName"), class), "", false}, {of("", attr("aliasedObjectName", "bad", "cn=b"), class), "", false}, {of("", attr("aliasedObjectName", ""), class), "", false},
	} {
		before := again(c.e)
		if got, is := entry.Alias(c.e); got != c.target || is != c.is {
			t.Errorf("Alias(%s): %q, %v", show(c.e), got, is)
		}
		if !entry.Same(c.e, before) {
			t.Errorf("changed to %s", show(c.e))
		}
	}
}

// R1, R2: whatever comes, each call ends, and answers the same again.
func TestAgain(t *testing.T) {
	texts := []string{"", "cn", "CN", "a", "\x00", "objectClass", "cn=a", "dc=x,", `\`, strings.Repeat("a", 5000), "serialNumber", "7"}
	list := slices.Concat(formed(), unformed(), []api.Entry{{Name: strings.Repeat("cn=a,", 10000), Attrs: make([]api.Attr, 10000)}, of("dc=x", attr("dc", make([]string, 10000)...))})
	for _, e := range list {
		var told [2]string
		for round := range told {
			alias, is := entry.Alias(e)
			told[round] = fmt.Sprint(entry.Formed(e), entry.Same(e, again(e)), alias, is)
			for i, s := range texts {
				made, code := entry.Make(s, e.Attrs)
				changed, second := entry.Modify(e, []api.Change{{Op: i - 1, Attr: attr(s, s)}})
				renamed, third := entry.Rename(e, s, i%2 == 0)
				told[round] += fmt.Sprint(entry.Values(e, s), entry.Has(e, s, s), made, code, changed, second, renamed, third)
			}
		}
		if told[0] != told[1] {
			t.Errorf("of %s: %.200q, then %.200q", show(e), told[0], told[1])
		}
	}
}

// given makes a text that lies in room.
func given(room []byte, word string) string {
	at := strings.Index(string(room), word)
	return unsafe.String(&room[at], len(word))
}

// R3: no answer shares memory with a text that is handed in.
func TestMemoryOfTexts(t *testing.T) {
	room := []byte("#cn=a,dc=x#A b#objectClass#Alias#aliasedObjectName#CN=b#serialNumber#10#5#description#X#cn=N  n+uid=Z#")
	before := string(room)
	name, class, target, serial := given(room, "cn=a,dc=x"), given(room, "objectClass"), given(room, "aliasedObjectName"), given(room, "serialNumber")
	e := of(name, attr(target, given(room, "CN=b")), attr("cn", "a", given(room, "A b")), attr(class, given(room, "Alias")), attr(serial, given(room, "10")))
	made, code := entry.Make(name, e.Attrs)
	values, alias := entry.Values(e, target), ""
	alias, _ = entry.Alias(e)
	changed, second := entry.Modify(e, []api.Change{{Op: 3, Attr: attr(serial, given(room, "5"))}, {Op: 0, Attr: attr(given(room, "description"), given(room, "X"))}, {Op: 2, Attr: attr(class, given(room, "Alias"), given(room, "X"))}})
	renamed, third := entry.Rename(e, given(room, "cn=N  n+uid=Z"), false)
	if !entry.Has(e, target, given(room, "CN=b")) || !entry.Formed(e) || code|second|third != api.Success {
		t.Fatalf("%d, %d, %d", code, second, third)
	}
	if string(room) != before {
		t.Errorf("changed to %q", room)
	}
	for i := range room {
		room[i] = '!'
	}
	if want := of("cn=a,dc=x", attr("aliasedObjectName", "CN=b"), attr("cn", "a", "A b"), attr("objectClass", "Alias"), attr("serialNumber", "10")); !entry.Same(made, want) {
		t.Errorf("Make: %s", show(made))
	}
	if want := of("cn=a,dc=x", attr("aliasedObjectName", "CN=b"), attr("cn", "a", "A b"), attr("description", "X"), attr("objectClass", "Alias", "X"), attr("serialNumber", "15")); !entry.Same(changed, want) {
		t.Errorf("Modify: %s", show(changed))
	}
	if want := of("cn=n n+uid=z", attr("aliasedObjectName", "CN=b"), attr("cn", "a", "A b", "N  n"), attr("objectClass", "Alias"), attr("serialNumber", "10"), attr("uid", "Z")); !entry.Same(renamed, want) {
		t.Errorf("Rename: %s", show(renamed))
	}
	if !slices.Equal(values, []string{"CN=b"}) || alias != "cn=b" {
		t.Errorf("Values: %q; Alias: %q", values, alias)
	}
}

// overwrite writes over all lists of an entry, their spare room too.
func overwrite(e api.Entry) {
	for _, a := range e.Attrs {
		overwriteTexts(a.Values)
	}
	clear(e.Attrs[:cap(e.Attrs)])
}

func overwriteTexts(list []string) {
	for i := range list[:cap(list)] {
		list[:cap(list)][i] = "!"
	}
}

// roomy makes an entry's lists anew as parts of greater ones, and tells what
// shows all of these.
func roomy(e api.Entry) (api.Entry, func() string) {
	attrs := slices.Concat([]api.Attr{attr("ahead", "!")}, again(e).Attrs, []api.Attr{attr("behind", "!")})
	all := make([][]string, len(attrs))
	for i := range attrs {
		all[i] = slices.Concat([]string{"ahead"}, attrs[i].Values, []string{"behind"})
		attrs[i].Values = all[i][1 : len(all[i])-1]
	}
	return api.Entry{Name: e.Name, Attrs: attrs[1 : len(attrs)-1]}, func() string { return fmt.Sprintf("%q %q", attrs, all) }
}

// R3: lists that are handed in are left as they are, their spare room too, and
// no list of an answer shares memory with them, or with another one.
func TestMemoryOfLists(t *testing.T) {
	plain := with(attr("ou", "b", "c"), attr("serialNumber", "1", "2"), attr("uid", "d"))
	changes := []api.Change{{Op: 3, Attr: attr("serialNumber", "1")}, {Op: 1, Attr: attr("ou", "B")}, {Op: 2, Attr: attr("uid", "e", "f")}, {Op: 0, Attr: attr("cn", "g")}, {Op: 1, Attr: attr("uid", "e")}}
	calls := []func(e api.Entry) (api.Entry, int){
		func(e api.Entry) (api.Entry, int) { return entry.Make(e.Name, e.Attrs) },
		func(e api.Entry) (api.Entry, int) { return entry.Modify(e, nil) },
		func(e api.Entry) (api.Entry, int) { return entry.Modify(e, changes) },
		func(e api.Entry) (api.Entry, int) { return entry.Modify(e, changes[1:2]) },
		func(e api.Entry) (api.Entry, int) { return entry.Rename(e, "cn=a,dc=y", true) },
		func(e api.Entry) (api.Entry, int) { return entry.Rename(e, "cn=Z+mail=Y", false) },
		func(e api.Entry) (api.Entry, int) { return entry.Rename(e, "cn=Z", true) },
		func(e api.Entry) (api.Entry, int) {
			return api.Entry{Name: e.Name, Attrs: []api.Attr{{Values: entry.Values(e, "ou")}, {Values: entry.Values(e, "ou")}}}, api.Success
		},
	}
	for i, call := range calls {
		e, shown := roomy(plain)
		before, text := shown(), fmt.Sprint(changes)
		got, code := call(e)
		want := again(got)
		for j := range got.Attrs {
			other, _ := call(e)
			overwriteTexts(other.Attrs[j].Values)
			for k := range other.Attrs {
				if k != j && !slices.Equal(other.Attrs[k].Values, want.Attrs[k].Values) {
					t.Errorf("call %d: list %d written over with list %d", i, k, j)
				}
			}
			overwrite(other)
		}
		if !entry.Same(got, want) || code != api.Success || len(got.Attrs) == 0 {
			t.Errorf("call %d: %s, %d; not %s", i, show(got), code, show(want))
		}
		if !entry.Formed(e) || !entry.Same(e, plain) || shown() != before || fmt.Sprint(changes) != text {
			t.Errorf("call %d: changed to %s, %v", i, shown(), changes)
		}
	}
}

// P9.1: what the words call alike is what layer 6's Value tells.
func TestAlikeByValue(t *testing.T) {
	values := []string{"a", "A", " a", "b", "", " ", "7", "07", "-7", "i", "1i", "cn=a", "CN=A", `cn=\61`, "cn=a,", "a\x00", longValue(), longValue() + "a"}
	for _, typ := range append(allTypes(), "sn", "") {
		for _, a := range values {
			e := of("", attr(typ, "cn=zz", a, "8"))
			for _, b := range values {
				first, err := dn.Value(typ, a)
				second, errOther := dn.Value(typ, b)
				want := err == api.OK && errOther == api.OK && first == second
				if got := entry.Has(e, typ, b); got != want {
					t.Errorf("Has(%q, %q) of %q: %v", typ, b, a, got)
				}
			}
		}
	}
}
