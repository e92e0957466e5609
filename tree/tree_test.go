package tree_test

import (
	"fmt"
	"math/rand"
	"slices"
	"strings"
	"testing"
	"unsafe"

	"verger/api"
	"verger/dn"
	"verger/entry"
	"verger/tree"
)

// attr makes an attribute.
func attr(typ string, values ...string) api.Attr {
	return api.Attr{Type: typ, Values: values}
}

// attrsOf are what an entry of a name has to have, with more behind it; none of
// what is no name's text.
func attrsOf(name string, more ...api.Attr) []api.Attr {
	attrs := []api.Attr{attr("objectClass", "top")}
	n, _ := dn.Parse(name)
	if len(n.Parts) > 0 {
		for _, pair := range n.Parts[0] {
			attrs = append(attrs, attr(pair.Type, pair.Value))
		}
	}
	return append(attrs, more...)
}

// aliasTo are what makes an entry an alias of a target.
func aliasTo(target string) []api.Attr {
	return []api.Attr{attr("objectClass", "alias"), attr("aliasedObjectName", target)}
}

// of makes the entry of a name.
func of(name string, more ...api.Attr) api.Entry {
	e, code := entry.Make(name, attrsOf(name, more...))
	if code != api.Success {
		panic(fmt.Sprintf("no entry of the name %.300q: %d", name, code))
	}
	return e
}

// entriesOf makes entries of names.
func entriesOf(names ...string) []api.Entry {
	var list []api.Entry
	for _, name := range names {
		list = append(list, of(name))
	}
	return list
}

// treeOf makes the tree of entries.
func treeOf(list ...api.Entry) *tree.Tree {
	t, err := tree.Of(list)
	if t == nil || err != api.OK {
		panic(fmt.Sprintf("no tree of %.300q: %v", fmt.Sprint(list), err))
	}
	return t
}

// named makes the tree of plain entries of names.
func named(names ...string) *tree.Tree {
	return treeOf(entriesOf(names...)...)
}

// orchard are entries of which the order of names isn't that of their texts;
// they stand in it.
func orchard() []api.Entry {
	return []api.Entry{
		of("dc=x"),
		of("cn=a,dc=x", attr("description", "first", "second")),
		of("ou=b,dc=x"),
		of("cn=a,ou=b,dc=x"),
		of("cn=al,ou=b,dc=x", aliasTo("DC=X")...),
		of("ou=b b,dc=x"),
		of(`ou=b\,b,dc=x`),
		of(`cn=z+uid=9,ou=b\,b,dc=x`),
		of("ou=bb,dc=x"),
		of("dc=x y"),
		of("cn=a,dc=x y"),
		of("o=y"),
	}
}

// full are as many entries as may be, in the order of names.
func full() []api.Entry {
	list := entriesOf("dc=x")
	for i := range api.MaxEntries - 1 {
		list = append(list, of(fmt.Sprintf("cn=%03d,dc=x", i)))
	}
	return list
}

// deep is a normal text of so many parts.
func deep(parts int) string {
	return strings.Repeat("ou=b,", parts-1) + "dc=x"
}

// long is a normal text of just so many bytes.
func long(size int) string {
	name := "dc=x"
	for size-len(name) > 300 {
		name = "ou=" + strings.Repeat("b", 196) + "," + name
	}
	for size-len(name) > 200 {
		name = "ou=" + strings.Repeat("c", 96) + "," + name
	}
	return "ou=" + strings.Repeat("d", size-len(name)-len("ou=,")) + "," + name
}

// chain are the names from the highest one down to that one.
func chain(name string) []string {
	var names []string
	for name != "" {
		names = append([]string{name}, names...)
		name, _ = dn.Parent(name)
	}
	return names
}

func shuffled(list []api.Entry, seed int64) []api.Entry {
	list = slices.Clone(list)
	rand.New(rand.NewSource(seed)).Shuffle(len(list), func(i, j int) { list[i], list[j] = list[j], list[i] })
	return list
}

func namesOf(list []api.Entry) []string {
	var names []string
	for _, e := range list {
		names = append(names, e.Name)
	}
	return names
}

// hold holds all that can be asked of a tree to the entries that it should
// have, in the order of names.
func hold(t *testing.T, got *tree.Tree, want []api.Entry) {
	t.Helper()
	if all := got.All(); !slices.EqualFunc(all, want, entry.Same) {
		t.Errorf("All: %.500q\nnot: %.500q", fmt.Sprint(all), fmt.Sprint(want))
	}
	if n := got.Len(); n != len(want) {
		t.Errorf("Len: %d, not %d", n, len(want))
	}
	children := map[string][]string{"o=gone": nil}
	for _, e := range want {
		if one, ok := got.Get(e.Name); !entry.Same(one, e) || !ok {
			t.Errorf("Get(%.300q): %.300q, %v", e.Name, fmt.Sprint(one), ok)
		}
		parent, _ := dn.Parent(e.Name)
		children[e.Name] = append(children[e.Name], []string{}...)
		children[parent] = append(children[parent], e.Name)
	}
	for name, names := range children {
		if told := got.Children(name); !slices.Equal(told, names) {
			t.Errorf("Children(%.300q): %.300q, not %.300q", name, told, names)
		}
	}
	for _, name := range []string{"", "o=gone", "cn=gone,dc=x", "dc=", "dc=x,", "dc", ",", long(api.MaxText + 1)} {
		if e, ok := got.Get(name); !entry.Same(e, api.Entry{}) || ok {
			t.Errorf("Get(%.300q): %.300q, %v", name, fmt.Sprint(e), ok)
		}
	}
}

// The chapter's examples.
func TestExamples(t *testing.T) {
	got := tree.New()
	for _, name := range []string{"dc=x", "cn=a,dc=x"} {
		if code := got.Add(name, attrsOf(name)); code != api.Success {
			t.Fatalf("Add(%q): %d", name, code)
		}
	}
	if code := got.Delete("dc=x"); code != api.NotAllowedOnNonLeaf {
		t.Errorf("Delete: %d", code)
	}
	hold(t, got, entriesOf("dc=x", "cn=a,dc=x"))
	if code := got.Rename("dc=x", "dc=y", true, "", false); code != api.Success {
		t.Errorf("Rename: %d", code)
	}
	hold(t, got, entriesOf("dc=y", "cn=a,dc=y"))
}

// P10.1: trees without entries; they can be used at once.
func TestEmpty(t *testing.T) {
	none, err := tree.Of(nil)
	other, second := tree.Of([]api.Entry{})
	if err != api.OK || second != api.OK {
		t.Fatalf("Of nothing: %v, %v", err, second)
	}
	for i, got := range []*tree.Tree{tree.New(), {}, new(tree.Tree), none, other, tree.New().Copy(), new(tree.Tree).Copy()} {
		if got == nil {
			t.Fatalf("tree %d is nil", i)
		}
		hold(t, got, nil)
		if names := got.Children(""); len(names) > 0 {
			t.Errorf("tree %d has %q", i, names)
		}
		if code := got.Add("dc=x", attrsOf("dc=x")); code != api.Success {
			t.Errorf("tree %d: Add: %d", i, code)
		}
		hold(t, got, entriesOf("dc=x"))
	}
	hold(t, tree.New(), nil)
}

// P10.1: a tree of entries in any order has them in the order of names.
func TestOf(t *testing.T) {
	for seed := range int64(40) {
		hold(t, treeOf(shuffled(orchard(), seed)...), orchard())
	}
	backwards := orchard()
	slices.Reverse(backwards)
	hold(t, treeOf(backwards...), orchard())
	hold(t, treeOf(shuffled(full(), 1)...), full())
	for _, name := range []string{deep(api.MaxRDNs), long(api.MaxText)} {
		list := entriesOf(chain(name)...)
		hold(t, treeOf(shuffled(list, 2)...), list)
	}
}

// P10.1: the order of names is that of their parts from the highest on, and not
// that of their texts.
func TestOrder(t *testing.T) {
	names := []string{"cn=a", "cn=a b", "cn=b", "cn=c,cn=b", "cn=a,cn=c,cn=b", "ou=a,cn=c,cn=b", "cn=d,cn=b", "cn=b+ou=a", "cn=a,cn=b+ou=a", "cn=bb", "dc=a", "serialNumber=10", "serialNumber=9", `uid=\,`, "uid=a"}
	list := entriesOf(names...)
	for seed := range int64(40) {
		got := treeOf(shuffled(list, seed)...)
		if told := namesOf(got.All()); !slices.Equal(told, names) {
			t.Fatalf("All: %q", told)
		}
	}
	got := tree.New()
	for _, e := range shuffled(list, 7) {
		got.Add(e.Name, e.Attrs)
	}
	for range names {
		for _, e := range shuffled(list, 8) {
			got.Add(e.Name, e.Attrs)
		}
	}
	hold(t, got, list)
	for i, name := range names[1:] {
		if dn.Compare(names[i], name) != -1 {
			t.Errorf("%q isn't ahead of %q", names[i], name)
		}
	}
}

// P10.1: what is no tree's entries.
func TestOfNoTree(t *testing.T) {
	unformed := of("cn=c,dc=x")
	unformed.Attrs = unformed.Attrs[:1]
	great := of("dc=z")
	great.Name = "DC=z"
	root := of("dc=z")
	root.Name = ""
	for i, more := range [][]api.Entry{
		{{}}, {unformed}, {great}, {root},
		// Twice.
		{of("dc=x")}, {of("o=y", attr("description", "another"))}, {of(`cn=z+uid=9,ou=b\,b,dc=x`)}, {of("o=z"), of("o=z")},
		// Without a parent.
		{of("cn=a,o=z")}, {of("cn=a,cn=b,o=y")}, {of("cn=a,cn=a,ou=bb,dc=x")}, {of("cn=a,cn=c,o=y"), of("cn=b,o=y")}, {of("cn=a,dc=x,dc=x")},
		// Under an alias.
		{of("cn=a,cn=al,ou=b,dc=x")}, {of("cn=s,o=y", aliasTo("dc=x")...), of("cn=t,cn=s,o=y", aliasTo("dc=x")...)}, {of("cn=a,cn=b,cn=al,ou=b,dc=x"), of("cn=b,cn=al,ou=b,dc=x")},
		entriesOf("o=z", "cn=a,o=z", "o=z"), full(),
	} {
		for seed := range int64(5) {
			got, err := tree.Of(shuffled(append(orchard(), more...), seed))
			if got != nil || err != api.ErrForm {
				t.Errorf("Of with %d: %v, %v", i, got, err)
			}
		}
	}
	over := append(full(), of("o=y"))
	for seed := range int64(3) {
		if got, err := tree.Of(shuffled(over, seed)); got != nil || err != api.ErrForm {
			t.Errorf("Of %d entries: %v", len(over), err)
		}
	}
	if got, err := tree.Of(slices.Repeat(full(), 500)); got != nil || err != api.ErrForm {
		t.Errorf("Of very many entries: %v", err)
	}
}

// P10.1: an entry is got by its name, however that is written.
func TestGet(t *testing.T) {
	got := treeOf(orchard()...)
	for _, c := range []struct{ name, want string }{
		{"DC=X", "dc=x"}, {`dc=\58`, "dc=x"}, {"CN=A,DC=x", "cn=a,dc=x"}, {`OU=B\2cb,dc=X`, `ou=b\,b,dc=x`}, {`ou=b\2C\42,dc=X`, `ou=b\,b,dc=x`}, {"ou=B   b,dc=x", "ou=b b,dc=x"},
		{`UID=9+CN=Z,ou=B\,B,dc=x`, `cn=z+uid=9,ou=b\,b,dc=x`}, {"dc=X  Y", "dc=x y"},
		{"", ""}, {"dc=xx", ""}, {"dc=y", ""}, {"o=x", ""}, {"cn=a", ""}, {"cn=a,o=y", ""}, {"dc=x,dc=x", ""}, {"dc= x", ""}, {"dc=x ", ""}, {" dc=x", ""}, {`cn=z,ou=b\,b,dc=x`, ""}, {`uid=9,ou=b\,b,dc=x`, ""},
		{"ou=b,b,dc=x", ""}, {"ou=b", ""}, {"sn=a,dc=x", ""}, {"dc=x,", ""}, {",dc=x", ""}, {",", ""}, {"dc=x\x00", ""}, {"cn=a;dc=x", ""},
	} {
		e, ok := got.Get(c.name)
		if e.Name != c.want || ok != (c.want != "") || !ok && len(e.Attrs) > 0 {
			t.Errorf("Get(%q): %q, %v; not %q", c.name, e, ok, c.want)
		}
	}
	hold(t, got, orchard())
}

// P10.1: the children of a name, however it is written; of the root too, and
// of a name that isn't there.
func TestChildren(t *testing.T) {
	got := treeOf(orchard()...)
	for name, want := range map[string][]string{
		"":               {"dc=x", "dc=x y", "o=y"},
		"dc=x":           {"cn=a,dc=x", "ou=b,dc=x", "ou=b b,dc=x", `ou=b\,b,dc=x`, "ou=bb,dc=x"},
		`DC=\58`:         {"cn=a,dc=x", "ou=b,dc=x", "ou=b b,dc=x", `ou=b\,b,dc=x`, "ou=bb,dc=x"},
		"Ou=B,Dc=X":      {"cn=a,ou=b,dc=x", "cn=al,ou=b,dc=x"},
		`OU=B\2cB,DC=X`:  {`cn=z+uid=9,ou=b\,b,dc=x`},
		"dc=X  Y":        {"cn=a,dc=x y"},
		"ou=bb,dc=x":     nil,
		"o=y":            nil,
		"cn=a,dc=x":      nil,
		"cn=gone,dc=x":   nil,
		"dc=z":           nil,
		"ou=b":           nil,
		"dc=":            nil,
		"dc":             nil,
		"dc=x,":          nil,
		",":              nil,
		" ":              nil,
		"dc= x":          nil,
		"sn=x":           nil,
		long(1001):       nil,
		"cn=" + "\x00":   nil,
		deep(13):         nil,
		"dc=x,dc=x,dc=x": nil,
	} {
		if told := got.Children(name); !slices.Equal(told, want) {
			t.Errorf("Children(%.100q): %q, not %q", name, told, want)
		}
	}
}

// P10.1: a copy has the same entries, and neither's changes are the other's.
func TestCopy(t *testing.T) {
	first := treeOf(orchard()...)
	second := first.Copy()
	if second == first {
		t.Fatal("a copy is the tree itself")
	}
	hold(t, second, orchard())
	describe := []api.Change{{Op: 2, Attr: attr("description", "changed")}}
	for i, code := range []int{
		first.Add("o=z", attrsOf("o=z")), first.Delete("o=y"), first.Modify("cn=a,dc=x", describe), first.Rename("ou=b,dc=x", "ou=c", true, "dc=x y", true),
	} {
		if code != api.Success {
			t.Fatalf("change %d: %d", i, code)
		}
	}
	hold(t, second, orchard())
	changed := first.All()
	third := first.Copy()
	for i, code := range []int{
		third.Delete("o=z"), third.Delete("cn=a,dc=x"), third.Modify("dc=x", describe), third.Rename("dc=x y", "dc=q", true, "", false), third.Add("cn=q,dc=x", attrsOf("cn=q")),
	} {
		if code != api.Success {
			t.Fatalf("change %d: %d", i, code)
		}
	}
	hold(t, first, changed)
	hold(t, second, orchard())
}

// P10.5, R1: a nil tree.
func TestNil(t *testing.T) {
	var none *tree.Tree
	for _, name := range []string{"dc=x", "", "dc=", "cn=a,dc=x"} {
		if e, ok := none.Get(name); !entry.Same(e, api.Entry{}) || ok {
			t.Errorf("Get(%q): %q, %v", name, e, ok)
		}
		if names := none.Children(name); len(names) > 0 {
			t.Errorf("Children(%q): %q", name, names)
		}
		for i, code := range []int{
			none.Add(name, attrsOf(name)), none.Add(name, nil), none.Delete(name), none.Modify(name, nil), none.Modify(name, []api.Change{{Op: 9}}),
			none.Rename(name, "dc=y", true, "", false), none.Rename(name, "", false, "dc=", true), none.Rename(name, "dc=y", false, "", true),
		} {
			if code != api.OperationsError {
				t.Errorf("change %d of %q: %d", i, name, code)
			}
		}
	}
	if none.Copy() != nil || len(none.All()) > 0 || none.Len() != 0 {
		t.Errorf("of nil: %v, %q, %d", none.Copy(), none.All(), none.Len())
	}
}

// overwrite writes over all that an entry's lists have, their spare room too.
func overwrite(e api.Entry) {
	for _, a := range e.Attrs {
		overwriteTexts(a.Values)
	}
	clear(e.Attrs[:cap(e.Attrs)])
}

func overwriteTexts(list []string) {
	for i := range list[:cap(list)] {
		list[:cap(list)][i] = "!"
	}
}

// roomy makes entries anew, with all lists as parts of greater ones, and tells
// what shows these.
func roomy(list []api.Entry) ([]api.Entry, func() string) {
	var seen []any
	all := []api.Entry{{Name: "ahead"}}
	for _, e := range list {
		attrs := slices.Concat([]api.Attr{attr("ahead")}, e.Attrs, []api.Attr{attr("behind")})
		for i := range attrs {
			values := slices.Concat([]string{"ahead"}, attrs[i].Values, []string{"behind"})
			attrs[i].Values = values[1 : len(values)-1]
			seen = append(seen, values)
		}
		seen = append(seen, attrs)
		all = append(all, api.Entry{Name: e.Name, Attrs: attrs[1 : len(attrs)-1]})
	}
	all = append(all, api.Entry{Name: "behind"})
	seen = append(seen, all)
	return all[1 : len(all)-1], func() string { return fmt.Sprintf("%q", seen) }
}

// R3: what is handed in is left as it is, and not kept.
func TestMemoryOfLists(t *testing.T) {
	list, shown := roomy(shuffled(orchard(), 3))
	before := shown()
	got := treeOf(list...)
	if shown() != before {
		t.Errorf("changed to %s", shown())
	}
	for _, e := range list {
		overwrite(e)
	}
	clear(list)
	hold(t, got, orchard())
	added, shown := roomy([]api.Entry{of("cn=q,o=y", attr("mail", "a", "b"))})
	before = shown()
	code := got.Add(added[0].Name, added[0].Attrs)
	changes := []api.Change{{Op: 0, Attr: attr("uid", "c", "d")}, {Op: 2, Attr: attr("ou", "e")}}
	text := fmt.Sprint(changes)
	second := got.Modify("cn=q,o=y", changes)
	if shown() != before || fmt.Sprint(changes) != text || code != api.Success || second != api.Success {
		t.Errorf("changed to %s, %v; %d, %d", shown(), changes, code, second)
	}
	overwrite(added[0])
	overwriteTexts(changes[0].Attr.Values)
	overwriteTexts(changes[1].Attr.Values)
	clear(changes)
	hold(t, got, append(orchard(), of("cn=q,o=y", attr("mail", "a", "b"), attr("uid", "c", "d"), attr("ou", "e"))))
}

// R3: answers are new memory; no two lists of one share any.
func TestMemoryOfAnswers(t *testing.T) {
	got := treeOf(orchard()...)
	for i := range orchard() {
		all := got.All()
		for j := range all[i].Attrs {
			overwriteTexts(all[i].Attrs[j].Values)
			for k := range all[i].Attrs {
				if k > j && !slices.Equal(all[i].Attrs[k].Values, orchard()[i].Attrs[k].Values) {
					t.Errorf("entry %d: list %d written over with list %d", i, k, j)
				}
			}
		}
		clear(all[i].Attrs[:cap(all[i].Attrs)])
		for j := range all {
			if j != i && !entry.Same(all[j], orchard()[j]) {
				t.Errorf("entry %d written over with %d", j, i)
			}
		}
		one, _ := got.Get(orchard()[i].Name)
		overwrite(one)
		overwriteTexts(got.Children(orchard()[i].Name))
	}
	clear(got.All()[:cap(got.All())])
	overwriteTexts(got.Children(""))
	hold(t, got, orchard())
}

// given makes a text that lies in room.
func given(room []byte, word string) string {
	at := strings.Index(string(room), word)
	return unsafe.String(&room[at], len(word))
}

// R3: no text that is handed in is kept.
func TestMemoryOfTexts(t *testing.T) {
	room := []byte("#dc=x#objectClass#Top#dc#X#cn=N,dc=x#cn#N#description#first#cn=Z#o=y#o#uid=left#uid#LEFT#")
	before := string(room)
	class := attr(given(room, "objectClass"), given(room, "Top"))
	list := []api.Entry{{Name: given(room, "dc=x"), Attrs: []api.Attr{attr(given(room, "dc"), given(room, "X")), class}}}
	list = append(list, api.Entry{Name: given(room, "uid=left"), Attrs: []api.Attr{class, attr(given(room, "uid"), given(room, "LEFT"))}})
	got := treeOf(list...)
	codes := []int{
		got.Add(given(room, "cn=N,dc=x"), []api.Attr{attr(given(room, "cn"), given(room, "N")), class}),
		got.Modify(given(room, "dc=x"), []api.Change{{Op: 0, Attr: attr(given(room, "description"), given(room, "first"))}}),
		got.Add(given(room, "o=y"), []api.Attr{attr(given(room, "o"), given(room, "y")), class}),
		got.Rename(given(room, "cn=N,dc=x"), given(room, "cn=Z"), false, given(room, "o=y"), true),
	}
	names := got.Children(given(room, "o=y"))
	one, _ := got.Get(given(room, "dc=x"))
	if string(room) != before || !slices.Equal(codes, []int{0, 0, 0, 0}) {
		t.Errorf("changed to %q; %d", room, codes)
	}
	for i := range room {
		room[i] = '!'
	}
	class = attr("objectClass", "Top")
	first := api.Entry{Name: "dc=x", Attrs: []api.Attr{attr("dc", "X"), attr("description", "first"), class}}
	moved := api.Entry{Name: "cn=z,o=y", Attrs: []api.Attr{attr("cn", "N", "z"), class}}
	left := api.Entry{Name: "uid=left", Attrs: []api.Attr{class, attr("uid", "LEFT")}}
	hold(t, got, []api.Entry{first, {Name: "o=y", Attrs: []api.Attr{attr("o", "y"), class}}, moved, left})
	if !slices.Equal(names, []string{"cn=z,o=y"}) || !entry.Same(one, first) {
		t.Errorf("%q, %q", names, one)
	}
}

// R1, R2: whatever comes, each call ends, and answers the same again.
func TestAgain(t *testing.T) {
	texts := []string{"", "dc=x", "DC=X", "cn=a,dc=x", "cn=al,ou=b,dc=x", "o=y", "cn", "=", ",", `\`, "cn=a+cn=b", "dc=x,", "\x00", "sn=a", long(1000), long(1001), deep(12), deep(13), strings.Repeat("cn=a,", 10000), strings.Repeat("+", 10000), "cn=" + strings.Repeat(`\ff`, 200)}
	told := [2]string{}
	for round := range told {
		var text strings.Builder
		got := treeOf(orchard()...)
		for i, s := range texts {
			one, ok := got.Get(s)
			fmt.Fprint(&text, got.Children(s), one, ok)
			for j, other := range texts {
				fmt.Fprint(&text, got.Rename(s, other, i%2 == 0, texts[(i+j)%len(texts)], i%3 > 0), got.Rename(s, "cn=q", true, other, true))
				fmt.Fprint(&text, got.Add(s, []api.Attr{attr(other, other)}), got.Modify(s, []api.Change{{Op: j - 2, Attr: attr(other, other)}}), got.Add(other, attrsOf(s)))
			}
			fmt.Fprint(&text, got.Delete(s))
		}
		fmt.Fprint(&text, got.All())
		told[round] = text.String()
	}
	if told[0] != told[1] {
		t.Errorf("%.300q, then %.300q", told[0], told[1])
	}
}
