package search_test

import (
	"fmt"
	"math"
	"slices"
	"strings"
	"testing"
	"unsafe"

	"verger/api"
	"verger/entry"
	"verger/filter"
	"verger/search"
)

// roomy makes a list anew, each of its lists a part of a greater one, and tells
// what shows all of these, and what writes over all of them.
func roomy(list []api.Entry) ([]api.Entry, func() string, func()) {
	ahead, behind := api.Entry{Name: "cn=ahead"}, api.Entry{Name: "cn=behind"}
	all := slices.Concat([]api.Entry{ahead}, list, []api.Entry{behind})
	var attrs [][]api.Attr
	var values [][]string
	for i, e := range all {
		own := slices.Concat([]api.Attr{attr("ahead", "!")}, e.Attrs, []api.Attr{attr("behind", "!")})
		for j := range own {
			texts := slices.Concat([]string{"ahead"}, own[j].Values, []string{"behind"})
			values = append(values, texts)
			own[j].Values = texts[1 : len(texts)-1]
		}
		attrs = append(attrs, own)
		all[i].Attrs = own[1 : len(own)-1]
	}
	shown := func() string { return fmt.Sprintf("%q %q %q", all, attrs, values) }
	return all[1 : len(all)-1], shown, func() {
		clear(all)
		for _, own := range attrs {
			clear(own)
		}
		for _, texts := range values {
			clear(texts)
		}
	}
}

// answers are all that the calls answer of a list that are entries.
func answers(list []api.Entry, r search.Request) []api.Entry {
	got := search.Run(list, r).Entries
	for _, e := range list {
		got = append(got, search.Select(e, r))
	}
	for scope := api.Base; scope <= api.Sub; scope++ {
		got = append(got, search.Scope(list, r.Base, scope)...)
	}
	return got
}

// asks are requests by which much is found in a house; their lists are parts of
// greater ones.
func asks() []search.Request {
	whole := []string{"ahead", "cn", "MAIL", "ou", "objectClass", "behind"}
	pieces := []string{"ahead", "a", "x", "behind"}
	parts := []filter.Filter{{Kind: 3}, {Kind: 4, Attr: "mail", Any: pieces[1:3]}, all(), {Kind: 3}}
	return []search.Request{
		{Base: "dc=x", Scope: api.Sub, Filter: all()},
		{Base: "dc=x", Scope: api.Sub, Deref: api.Always, Filter: filter.Filter{Kind: 1, Parts: parts[1:3]}, Attrs: whole[1:5]},
		{Base: "ou=p,dc=x", Scope: api.One, Deref: api.Searching, Filter: all(), Attrs: []string{"*"}, Size: 3},
		{Base: "ou=p,dc=x", Scope: api.One, Filter: parts[1], Attrs: whole[1:3], TypesOnly: true},
	}
}

// R3: lists that are handed in are left as they are, their spare room too, and
// not kept.
func TestMemoryOfLists(t *testing.T) {
	for i := range asks() {
		// They are made anew, since they share lists.
		r := asks()[i]
		given, shown, overwrite := roomy(house())
		asked := func() string {
			return fmt.Sprintf("%+v %q %+v", r, r.Attrs[:cap(r.Attrs)], r.Filter.Parts[:cap(r.Filter.Parts)])
		}
		before, request := shown(), asked()
		got := answers(given, r)
		search.Formed(r)
		if shown() != before || asked() != request {
			t.Errorf("%s, changed to %s; %s, changed to %s", before, shown(), request, asked())
		}
		overwrite()
		clear(r.Attrs[:cap(r.Attrs)])
		if want := answers(house(), asks()[i]); !slices.EqualFunc(got, want, entry.Same) || len(got) < 10 {
			t.Errorf("%s: %s, not %s", showRequest(asks()[i]), show(got), show(want))
		}
	}
}

// R3: no list of an answer shares memory with another one, or with what is
// handed in.
func TestMemoryOfAnswers(t *testing.T) {
	for _, r := range asks() {
		list, want := house(), answers(house(), r)
		got := answers(list, r)
		for i := range got {
			for j := range got[i].Attrs {
				a := got[i].Attrs[j]
				values := a.Values[:cap(a.Values)]
				for k := range values {
					values[k] = "!"
				}
				got[i].Attrs[j] = attr("!")
				// Those ahead of it are written over already.
				if rest := got[i].Attrs[j+1:]; !entry.Same(api.Entry{Attrs: rest}, api.Entry{Attrs: want[i].Attrs[j+1:]}) {
					t.Errorf("written over: %q", rest)
				}
			}
			clear(got[i].Attrs[:cap(got[i].Attrs)])
			if !slices.EqualFunc(got[i+1:], want[i+1:], entry.Same) {
				t.Errorf("written over: %s", show(got[i+1:]))
			}
		}
		for scope := api.Base; scope <= api.Sub; scope++ {
			inside := search.Scope(list, r.Base, scope)
			clear(inside[:cap(inside)])
		}
		entries := search.Run(list, r).Entries
		clear(entries[:cap(entries)])
		if again := answers(list, r); !slices.EqualFunc(again, want, entry.Same) {
			t.Errorf("written over: %s", show(again))
		}
		if !slices.EqualFunc(list, house(), entry.Same) {
			t.Errorf("written over: %s", show(list))
		}
	}
}

// R3: no text that is handed in is kept in an answer.
func TestMemoryOfTexts(t *testing.T) {
	room := []byte("#cn=a,dc=x#DC=X#dc=x#objectClass#person#cn#A#mail#CN#")
	before := string(room)
	given := func(word string) string {
		return unsafe.String(&room[strings.Index(before, "#"+word+"#")+1], len(word))
	}
	list := []api.Entry{{Name: given("cn=a,dc=x"), Attrs: []api.Attr{attr(given("cn"), given("A")), attr(given("objectClass"), given("person"))}}, {Name: given("dc=x")}}
	r := search.Request{Base: given("DC=X"), Scope: api.Sub, Deref: api.Always, Filter: parsed("(&)"), Attrs: []string{given("CN"), given("mail")}}
	bare := r
	bare.Attrs = nil
	var got []api.Entry
	for _, r := range []search.Request{r, bare} {
		got = append(got, answers(list, r)...)
	}
	if string(room) != before || len(got) < 10 {
		t.Fatalf("changed to %q, %s", room, show(got))
	}
	want := fmt.Sprintf("%q", got)
	for i := range room {
		room[i] = '!'
	}
	if kept := fmt.Sprintf("%q", got); kept != want {
		t.Errorf("kept: %s, not %s", kept, want)
	}
}

// R4: lists of no elements may be nil or empty.
func TestNoElements(t *testing.T) {
	r := search.Request{Scope: api.Sub, Deref: api.Always, Filter: filter.Filter{Parts: []filter.Filter{}, Any: []string{}}, Attrs: []string{}}
	for _, list := range [][]api.Entry{nil, {}} {
		hold(t, list, r, api.Success)
		hold(t, list, search.Request{}, api.Success)
		r.Base = "dc=x"
		hold(t, list, r, api.NoSuchObject)
		r.Base = ""
	}
	bare := []api.Entry{{Name: "dc=x"}, {Name: "cn=a,dc=x", Attrs: []api.Attr{{Type: "cn"}}}}
	empty := []api.Entry{{Name: "dc=x", Attrs: []api.Attr{}}, {Name: "cn=a,dc=x", Attrs: []api.Attr{{Type: "cn", Values: []string{}}}}}
	hold(t, bare, r, api.Success, empty...)
	hold(t, empty, r, api.Success, bare...)
}

// R1, R2: whatever comes, each call ends, and answers the same again.
func TestAgain(t *testing.T) {
	class := attr("objectClass", "alias")
	odd := []api.Entry{
		{}, {Name: "x"}, {Name: "CN=A", Attrs: []api.Attr{class, attr("aliasedObjectName", "cn=b")}}, {Name: ",", Attrs: []api.Attr{class, class}}, {Name: "cn=b,CN=A"},
		{Name: "cn=a", Attrs: []api.Attr{class, attr("aliasedObjectName", "")}}, {Name: "", Attrs: []api.Attr{class, attr("aliasedObjectName", "cn=b")}},
		{Name: strings.Repeat("cn=a,", 1000), Attrs: make([]api.Attr, 1000)}, alias("cn=z", "cn=z"), alias("cn=y", "cn=y,cn=z"), {Name: "Cn=a"},
	}
	lists := [][]api.Entry{nil, odd, make([]api.Entry, 10000), house(), slices.Repeat(house(), 3)}
	names := append(noNames(), "", "cn=a", "CN=z", "cn=y", "dc=x", "cn=self,ou=q,o=y", rising(api.MaxRDNs), "\xff", `\`)
	requests := notFormed()
	for scope := -1; scope <= 3; scope++ {
		for deref := -1; deref <= 4; deref++ {
			requests = append(requests, search.Request{Scope: scope, Deref: deref, Filter: parsed("(&)"), Size: scope * deref}, search.Request{Scope: scope, Deref: deref, Filter: all(), Attrs: []string{"\xff", "", "CN"}, Size: math.MaxInt})
		}
	}
	var told [2]string
	for round := range told {
		var text strings.Builder
		for _, list := range lists {
			for _, name := range names {
				for _, r := range requests {
					r.Base = name
					got := search.Run(list, r)
					fmt.Fprintf(&text, "%v %d %q ", search.Formed(r), got.Code, got.Entries)
				}
				for _, scope := range []int{math.MinInt, -1, 0, 1, 2, 3, math.MaxInt} {
					fmt.Fprintf(&text, "%q ", search.Scope(list, name, scope))
				}
			}
		}
		told[round] = text.String()
	}
	if told[0] != told[1] {
		t.Error("answers differ")
	}
}
