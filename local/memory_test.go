package local_test

import (
	"fmt"
	"math"
	"slices"
	"strings"
	"testing"
	"unsafe"

	"verger/api"
	"verger/filter"
	"verger/local"
	"verger/part"
	"verger/policy"
	"verger/search"
)

// rooms make lists anew, each a part of a greater one, and keep what shows all
// of these, and what writes over them.
type rooms struct {
	shows  []func() string
	clears []func()
}

func within[T any](in *rooms, list []T, ahead, behind T) []T {
	all := slices.Concat([]T{ahead}, list, []T{behind})
	in.shows = append(in.shows, func() string { return fmt.Sprintf("%+v", all) })
	in.clears = append(in.clears, func() { clear(all) })
	return all[1 : len(all)-1]
}

func (in *rooms) entries(list []api.Entry) []api.Entry {
	list = slices.Clone(list)
	for i, e := range list {
		attrs := slices.Clone(e.Attrs)
		for j := range attrs {
			attrs[j].Values = within(in, attrs[j].Values, "ahead", "behind")
		}
		list[i].Attrs = within(in, attrs, attr("ahead"), attr("behind"))
	}
	return within(in, list, thing("cn=ahead,dc=x"), thing("cn=behind,dc=x"))
}

func (in *rooms) config(c part.Config) part.Config {
	ahead, behind := cut("ou=ahead,dc=x", 7), cut("ou=behind,dc=x", 8)
	servers := slices.Clone(c.Servers)
	for i, s := range servers {
		contexts := slices.Clone(s.Contexts)
		for j := range contexts {
			contexts[j].Entries = in.entries(contexts[j].Entries)
			contexts[j].Subs = within(in, contexts[j].Subs, ahead, behind)
		}
		servers[i].Contexts = within(in, contexts, context("dc=ahead"), context("dc=behind"))
	}
	return part.Config{Servers: within(in, servers, part.Server{}, part.Server{}), Top: within(in, c.Top, ahead, behind)}
}

func (in *rooms) show() string {
	var text strings.Builder
	for _, show := range in.shows {
		text.WriteString(show())
	}
	return text.String()
}

// questions are all that a call is given, made anew, in rooms.
func questions(in *rooms) (part.Config, []policy.Rule, []search.Request) {
	_, c := county()
	rules := within(in, everything(forbid("cn=b,cn=a,dc=x", "")), forbid("", ""), forbid("", ""))
	none := filter.Filter{Kind: 7, Attr: "sn"}
	either := filter.Filter{Kind: 1, Parts: within(in, []filter.Filter{{Kind: 4, Attr: "mail", Any: within(in, []string{"a"}, "q", "q")}, parsed("(objectClass=*)")}, none, none)}
	return in.config(c), rules, []search.Request{
		{Base: "DC=X", Scope: api.Sub, Deref: api.Always, Filter: either, Attrs: within(in, []string{"MAIL", "ou", "ref"}, "cn", "cn")},
		{Base: "", Scope: api.Sub, Filter: either},
		{Base: "cn=in,dc=x", Scope: api.One, Deref: api.Finding, Filter: either, Attrs: within(in, []string{"*"}, "", "")},
		{Base: "o=y", Scope: api.Sub, Deref: api.Searching, Filter: either, TypesOnly: true},
		{Base: "cn=far,dc=x", Deref: api.Finding, Filter: either},
	}
}

// answers are those of both calls, at all servers.
func answers(c part.Config, rules []policy.Rule, requests []search.Request) []local.Result {
	var list []local.Result
	for server := range c.Servers {
		for _, r := range requests {
			list = append(list, local.Run(c, rules, server, "cn=a,dc=x", r), local.Manage(c, rules, server, "cn=a,dc=x", r))
		}
	}
	return list
}

// R3: what is handed in is left as it is, its spare room too, and not kept.
func TestMemoryOfLists(t *testing.T) {
	in := &rooms{}
	c, rules, requests := questions(in)
	before := in.show()
	got := answers(c, rules, requests)
	if in.show() != before {
		t.Errorf("%s\nchanged to %s", before, in.show())
	}
	for _, overwrite := range in.clears {
		overwrite()
	}
	want := answers(questions(&rooms{}))
	if !slices.EqualFunc(got, want, same) {
		t.Errorf("%v, not %v", got, want)
	}
}

// R3: no list of an answer shares memory with another one, or with what was
// handed in.
func TestMemoryOfAnswers(t *testing.T) {
	c, rules, requests := questions(&rooms{})
	got, want := answers(c, rules, requests), answers(c, rules, requests)
	for i, result := range got {
		for j, e := range result.Entries {
			for k, a := range e.Attrs {
				values := a.Values[:cap(a.Values)]
				for n := range values {
					values[n] = "!"
				}
				if rest := want[i].Entries[j].Attrs[k+1:]; !slices.EqualFunc(e.Attrs[k+1:], rest, func(a, b api.Attr) bool { return a.Type == b.Type && slices.Equal(a.Values, b.Values) }) {
					t.Errorf("written over: %q", e.Attrs[k+1:])
				}
			}
			clear(e.Attrs[:cap(e.Attrs)])
			if rest := (local.Result{Entries: result.Entries[j+1:]}); !same(rest, local.Result{Entries: want[i].Entries[j+1:]}) {
				t.Errorf("written over: %s", show(rest))
			}
		}
		clear(result.Entries[:cap(result.Entries)])
		if !slices.Equal(result.Pointers, want[i].Pointers) || !slices.EqualFunc(got[i+1:], want[i+1:], same) {
			t.Errorf("written over: %v", got[i:])
		}
		clear(result.Pointers[:cap(result.Pointers)])
	}
	if again := answers(c, rules, requests); !slices.EqualFunc(again, want, same) {
		t.Errorf("written over: %v, not %v", again, want)
	}
}

// R3: no text that is handed in is kept in an answer.
func TestMemoryOfTexts(t *testing.T) {
	room := []byte("#dc=x#ou=b,dc=x#cn=al,dc=x#cn=c,ou=b,dc=x#o=y#dc#x#cn#al#objectClass#alias#aliasedObjectName#CN#mail#*#")
	before := string(room)
	given := func(word string) string {
		return unsafe.String(&room[strings.Index(before, "#"+word+"#")+1], len(word))
	}
	al := api.Entry{Name: given("cn=al,dc=x"), Attrs: []api.Attr{attr(given("aliasedObjectName"), given("cn=c,ou=b,dc=x")), attr(given("cn"), given("al")), attr(given("objectClass"), given("alias"))}}
	base := api.Entry{Name: given("dc=x"), Attrs: []api.Attr{attr(given("dc"), given("x")), attr(given("objectClass"), given("alias"))}}
	c := over([]part.Context{{Name: given("dc=x"), Entries: []api.Entry{base, al}, Subs: []part.Cut{cut(given("ou=b,dc=x"), 1)}}}, nil)
	c.Top = []part.Cut{cut(given("o=y"), 1)}
	rules := []policy.Rule{{Who: given("*"), Rights: 1, Allow: true}}
	var got []local.Result
	for _, base := range []string{"dc=x", "cn=al,dc=x", "o=y", "cn=c,ou=b,dc=x", ""} {
		for deref := range 4 {
			r := search.Request{Base: "", Scope: api.Sub, Deref: deref, Filter: parsed("(&)")}
			if base != "" {
				r.Base = given(base)
			}
			got = append(got, local.Run(c, rules, 0, given("dc=x"), r), local.Run(c, rules, 1, given("dc=x"), r), local.Manage(c, rules, 0, given("dc=x"), r))
			r.Attrs = []string{given("CN"), given("mail")}
			got = append(got, local.Run(c, rules, 0, given("dc=x"), r), local.Manage(c, rules, 0, given("dc=x"), r))
		}
	}
	showAll := func() string {
		var text strings.Builder
		for _, result := range got {
			text.WriteString(show(result))
		}
		return text.String()
	}
	want := showAll()
	if string(room) != before || strings.Count(want, "cn=al,dc=x") < 10 || strings.Count(want, "cn=c,ou=b,dc=x") < 10 {
		t.Fatalf("changed to %q, %s", room, want)
	}
	for i := range room {
		room[i] = '!'
	}
	if kept := showAll(); kept != want {
		t.Errorf("kept: %s, not %s", kept, want)
	}
}

// R4: lists of no elements may be nil or empty.
func TestNoElements(t *testing.T) {
	for _, contexts := range [][]part.Context{nil, {}} {
		for _, cuts := range [][]part.Cut{nil, {}} {
			for _, list := range [][]api.Entry{nil, {}} {
				for _, attrs := range [][]string{nil, {}} {
					c := over([]part.Context{{Name: "dc=x", Entries: list, Subs: cuts}, {Name: "o=y", Entries: things("o=y"), Subs: cuts}}, contexts)
					c.Top = cuts
					r := search.Request{Scope: api.Sub, Filter: filter.Filter{Parts: []filter.Filter{}, Any: attrs}, Attrs: attrs}
					for _, rules := range [][]policy.Rule{nil, {}, everything()} {
						if got := local.Run(c, rules, 0, "", r); !same(got, local.Result{}) {
							t.Error(show(got))
						}
						if got := local.Manage(c, rules, 1, "", r); !same(got, local.Result{}) {
							t.Error(show(got))
						}
					}
					r.Base = "o=y"
					if got := local.Run(c, everything(), 0, "", r); !same(got, local.Result{Entries: things("o=y")}) {
						t.Error(show(got))
					}
					r.Base = "dc=x"
					if got := local.Run(c, everything(), 0, "", r); !same(got, local.Result{Code: api.NoSuchObject}) {
						t.Error(show(got))
					}
				}
			}
		}
	}
}

// R1, R2: whatever comes, each call ends, and answers the same again.
func TestAgain(t *testing.T) {
	_, c := county()
	odd := []api.Entry{{}, {Name: "x"}, {Name: "DC=X", Attrs: []api.Attr{attr("objectClass", "alias"), attr("aliasedObjectName", "")}}, {Name: ",", Attrs: make([]api.Attr, 100)}, alias("dc=x", "dc=x")}
	configs := append(unformed(), part.Config{}, c, over(nil), over([]part.Context{{Name: "dc=x", Entries: odd, Subs: []part.Cut{{}, cut("x", -1)}}}), part.Config{Servers: make([]part.Server, 100000)})
	requests := append(notFormed(), search.Request{}, search.Request{Scope: 2, Deref: 3, Filter: parsed("(objectClass=*)"), Attrs: []string{"\xff", ""}, Size: math.MaxInt})
	var told [2]string
	for round := range told {
		var text strings.Builder
		for _, c := range configs {
			for _, rules := range [][]policy.Rule{nil, everything(), {{}}, make([]policy.Rule, 10000)} {
				for _, server := range []int{math.MinInt, -1, 0, 1, 3, math.MaxInt} {
					for _, base := range append(noNames(), "", "dc=x", "cn=self,dc=x", "CN=Far,dc=x") {
						for _, r := range requests {
							r.Base = base
							text.WriteString(show(local.Run(c, rules, server, base, r)) + show(local.Manage(c, rules, server, base, r)))
						}
					}
				}
			}
		}
		told[round] = text.String()
	}
	if told[0] != told[1] {
		t.Error("answers differ")
	}
}
