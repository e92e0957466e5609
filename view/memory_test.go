package view_test

import (
	"fmt"
	"slices"
	"strings"
	"testing"
	"unsafe"

	"verger/api"
	"verger/entry"
	"verger/policy"
	"verger/view"
)

// again makes new memory of an entry.
func again(e api.Entry) api.Entry {
	attrs := slices.Clone(e.Attrs)
	for i := range attrs {
		attrs[i].Values = slices.Clone(attrs[i].Values)
	}
	return api.Entry{Name: e.Name, Attrs: attrs}
}

// roomy makes an entry's lists anew as parts of greater ones, and tells what
// shows all of these.
func roomy(e api.Entry) (api.Entry, func() string) {
	attrs := slices.Concat([]api.Attr{attr("ahead", "!")}, again(e).Attrs, []api.Attr{attr("behind", "!")})
	all := make([][]string, len(attrs))
	for i := range attrs {
		all[i] = slices.Concat([]string{"ahead"}, attrs[i].Values, []string{"behind"})
		attrs[i].Values = all[i][1 : len(all[i])-1]
	}
	return api.Entry{Name: e.Name, Attrs: attrs[1 : len(attrs)-1]}, func() string { return fmt.Sprintf("%q %q", attrs, all) }
}

func overwriteTexts(list []string) {
	for i := range list[:cap(list)] {
		list[:cap(list)][i] = "!"
	}
}

// overwrite writes over all lists of an entry, their spare room too.
func overwrite(e api.Entry) {
	for _, a := range e.Attrs {
		overwriteTexts(a.Values)
	}
	clear(e.Attrs[:cap(e.Attrs)])
}

// R3: lists that are handed in are left as they are, their spare room too, and
// no list of an answer shares memory with them, or with another one.
func TestMemoryOfLists(t *testing.T) {
	plain := person("cn=a,dc=x", attr("ou", "b", "c"), attr("serialNumber", "1", "2"), attr("uid", "d"))
	wholeRules := []policy.Rule{forbid("ahead", 0, "", ""), forbid("*", read, "dc=x", "serialNumber"), allow("*", read, "", ""), forbid("behind", 0, "", "")}
	rules, text := wholeRules[1:3], fmt.Sprint(wholeRules)
	want := of(plain.Name, plain.Attrs[0], plain.Attrs[1], plain.Attrs[2], plain.Attrs[4])
	e, shown := roomy(plain)
	wholeList := []api.Entry{of("ahead"), e, e, of("behind")}
	list, before := wholeList[1:3], shown()
	if got := view.Of(list, rules, ""); !slices.EqualFunc(got, []api.Entry{want, want}, entry.Same) {
		t.Fatalf("Of: %s", show(got...))
	}
	for i := range want.Attrs {
		got, _ := view.One(e, rules, "")
		overwriteTexts(got.Attrs[i].Values)
		for j := range want.Attrs {
			if i != j && !slices.Equal(got.Attrs[j].Values, want.Attrs[j].Values) {
				t.Errorf("list %d written over with list %d", j, i)
			}
		}
		overwrite(got)
	}
	got := view.Of(list, rules, "")
	overwrite(got[0])
	if !entry.Same(got[1], want) {
		t.Errorf("written over: %s", show(got...))
	}
	clear(got[:cap(got)])
	holdOf(t, list, rules, "", want, want)
	if shown() != before || fmt.Sprint(wholeRules) != text || wholeList[0].Name != "ahead" || wholeList[3].Name != "behind" {
		t.Errorf("changed to %s, %v, %s", shown(), wholeRules, show(wholeList...))
	}
	kept := append(view.Of(list, rules, ""), want)
	overwrite(e)
	clear(wholeList)
	clear(wholeRules)
	for _, seen := range kept {
		if !entry.Same(seen, want) {
			t.Errorf("written over: %s", show(seen))
		}
	}
}

// R3: no text that is handed in is kept.
func TestMemoryOfTexts(t *testing.T) {
	room := []byte("#@dc=y#cn=a,dc=x#objectClass#person#A#DC=Y,#ou#b#")
	before := string(room)
	given := func(word string) string {
		return unsafe.String(&room[strings.Index(before, word)], len(word))
	}
	e := of(given("cn=a,dc=x"), attr(given("cn"), given("A")), attr(given("objectClass"), given("person")), attr(given("ou"), given("b")))
	rules := []policy.Rule{forbid(given("@dc=y"), read, given("dc=x"), given("ou")), allow("*", read, "", "")}
	one, ok := view.One(e, rules, given("DC=Y"))
	list := view.Of([]api.Entry{e}, rules, given("DC=Y"))
	if !ok || len(list) != 1 || string(room) != before {
		t.Fatalf("%v, %s; changed to %q", ok, show(list...), room)
	}
	for i := range room {
		room[i] = '!'
	}
	want := of("cn=a,dc=x", attr("cn", "A"), attr("objectClass", "person"))
	if !entry.Same(one, want) || !entry.Same(list[0], want) {
		t.Errorf("kept: %s, %s", show(one), show(list...))
	}
}
