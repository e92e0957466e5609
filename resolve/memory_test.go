package resolve_test

import (
	"fmt"
	"slices"
	"strings"
	"testing"
	"unsafe"

	"verger/api"
	"verger/resolve"
)

// roomy makes a list anew, with spare room at each of its lists, and tells what
// shows all of that.
func roomy(list []api.Entry) ([]api.Entry, func() string) {
	all := slices.Concat(list, []api.Entry{plain("cn=behind")})
	var attrs [][]api.Attr
	var values [][]string
	for i, e := range all {
		own := slices.Concat(e.Attrs, []api.Attr{attr("behind", "!")})
		for j := range own {
			texts := slices.Concat(own[j].Values, []string{"behind"})
			values = append(values, texts)
			own[j].Values = texts[:len(texts)-1]
		}
		attrs = append(attrs, own)
		all[i].Attrs = own[:len(own)-1]
	}
	return all[:len(list)], func() string { return fmt.Sprintf("%q %q %q", all, attrs, values) }
}

// R3: lists that are handed in are left as they are, their spare room too.
func TestMemoryOfLists(t *testing.T) {
	for _, list := range [][]api.Entry{chain(5), chain(17), ring(3), {alias("dc=x", "cn=p,cn=q"), plain("dc=x")}} {
		given, shown := roomy(list)
		before := shown()
		for _, name := range []string{"", "cn=s0", "CN=A,cn=s2", "cn=r1", "cn=behind", "dc=x", rising(api.MaxRDNs-1) + ",dc=x", "x"} {
			resolve.Step(given, name)
			resolve.Find(given, name, false)
			resolve.Find(given, name, true)
		}
		if shown() != before {
			t.Errorf("%s, changed to %s", before, shown())
		}
	}
}

// R3: no text that is handed in is kept in an answer.
func TestMemoryOfTexts(t *testing.T) {
	room := []byte("#cn=a,dc=x#cn=al#objectClass#alias#aliasedObjectName#cn=b#")
	before := string(room)
	given := func(word string) string {
		return unsafe.String(&room[strings.Index(before, word)], len(word))
	}
	al := api.Entry{Name: given("cn=al"), Attrs: []api.Attr{attr(given("aliasedObjectName"), given("cn=b")), attr(given("objectClass"), given("alias"))}}
	list := []api.Entry{al, {Name: given("cn=a,dc=x")}, {Name: given("cn=b")}}
	var got, want []string
	tell := func(name string, _ bool, code int, wanted string) {
		if code != api.Success || name != wanted {
			t.Errorf("%q, %d, not %q", name, code, wanted)
		}
		got, want = append(got, name), append(want, strings.Clone(wanted))
	}
	for _, c := range []struct{ name, end string }{{"cn=a,dc=x", "cn=a,dc=x"}, {"cn=al", "cn=b"}, {"cn=b", "cn=b"}, {"dc=x", "dc=x"}} {
		name, ok, code := resolve.Step(list, given(c.name))
		tell(name, ok, code, c.end)
		if c.name == "dc=x" {
			continue
		}
		name, ok, code = resolve.Find(list, given(c.name), true)
		tell(name, ok, code, c.end)
		name, ok, code = resolve.Find(list, given(c.name), false)
		tell(name, ok, code, c.name)
	}
	if string(room) != before {
		t.Errorf("changed to %q", room)
	}
	for i := range room {
		room[i] = '!'
	}
	if !slices.Equal(got, want) {
		t.Errorf("kept: %q, not %q", got, want)
	}
}
