package part_test

import (
	"fmt"
	"math"
	"slices"
	"strings"
	"testing"
	"unsafe"

	"verger/api"
	"verger/entry"
	"verger/part"
)

// room keeps all lists that were made with spare room, to show them and to
// write over them.
type room struct {
	attrs    [][]api.Attr
	values   [][]string
	entries  [][]api.Entry
	cuts     [][]part.Cut
	contexts [][]part.Context
	servers  [][]part.Server
}

// within makes a list anew, as a part of a greater one, which it puts among
// those that are kept.
func within[T any](kept *[][]T, list []T, ahead, behind T) []T {
	all := slices.Concat([]T{ahead}, list, []T{behind})
	*kept = append(*kept, all)
	return all[1 : len(all)-1]
}

func (m *room) entriesOf(list []api.Entry) []api.Entry {
	list = slices.Clone(list)
	for i := range list {
		attrs := slices.Clone(list[i].Attrs)
		for j := range attrs {
			attrs[j].Values = within(&m.values, attrs[j].Values, "ahead", "behind")
		}
		list[i].Attrs = within(&m.attrs, attrs, attr("ahead", "!"), attr("behind", "!"))
	}
	return within(&m.entries, list, api.Entry{Name: "cn=ahead"}, api.Entry{Name: "cn=behind"})
}

func (m *room) cutsOf(list []part.Cut) []part.Cut {
	return within(&m.cuts, list, part.Cut{Name: "cn=ahead", Server: 7}, part.Cut{Name: "cn=behind", Server: 8})
}

func (m *room) configOf(c part.Config) part.Config {
	servers := slices.Clone(c.Servers)
	for i, s := range servers {
		contexts := slices.Clone(s.Contexts)
		for j := range contexts {
			contexts[j].Entries = m.entriesOf(contexts[j].Entries)
			contexts[j].Subs = m.cutsOf(contexts[j].Subs)
		}
		servers[i].Contexts = within(&m.contexts, contexts, part.Context{Name: "cn=ahead"}, part.Context{Name: "cn=behind"})
	}
	return part.Config{
		Servers: within(&m.servers, servers, part.Server{}, part.Server{Contexts: []part.Context{{Name: "cn=behind"}}}),
		Top:     m.cutsOf(c.Top),
	}
}

func (m *room) shown() string {
	return fmt.Sprintf("%+v", *m)
}

func clearAll[T any](lists [][]T) {
	for _, list := range lists {
		clear(list[:cap(list)])
	}
}

// overwrite writes over all that is kept.
func (m *room) overwrite() {
	clearAll(m.attrs)
	clearAll(m.values)
	clearAll(m.entries)
	clearAll(m.cuts)
	clearAll(m.contexts)
	clearAll(m.servers)
}

// R3: lists that are handed in are left as they are, their spare room too, and
// not kept.
func TestMemoryOfLists(t *testing.T) {
	var m room
	list, cut, whole := m.entriesOf(shuffled(house(), 1)), m.cutsOf(shuffled(cuts(), 2)), m.configOf(config())
	before := m.shown()
	c, err := part.Split(list, cut, 4)
	joined, cutAgain, second := part.Join(whole)
	if err != api.OK || second != api.OK || !part.Formed(whole) {
		t.Fatalf("%v, %v, %v", err, second, part.Formed(whole))
	}
	part.Context1(cut, "cn=a,ou=b,dc=x")
	part.Split(list, cut, 0)
	if m.shown() != before {
		t.Errorf("%.2000s\nchanged to %.2000s", before, m.shown())
	}
	m.overwrite()
	if !sameConfigs(c, config()) {
		t.Errorf("kept: %s", show(c))
	}
	if !slices.EqualFunc(joined, house(), entry.Same) || !slices.Equal(cutAgain, cuts()) {
		t.Errorf("kept: %s, %v", show(joined), cutAgain)
	}
}

// holdApart holds lists of an answer to being apart: whichever is written over,
// its spare room too, the others stay.
func holdApart[T any](t *testing.T, told string, make func() ([][]T, func() []string)) {
	t.Helper()
	lists, _ := make()
	for i := range lists {
		lists, shown := make()
		before := shown()
		clear(lists[i][len(lists[i]):cap(lists[i])])
		if after := shown(); !slices.Equal(after, before) {
			t.Errorf("%s: list %d has spare room in another one: %q", told, i, after)
		}
		clear(lists[i][:cap(lists[i])])
		after := shown()
		for j := range before {
			if j != i && after[j] != before[j] {
				t.Errorf("%s: list %d written over with list %d: %s", told, j, i, after[j])
			}
		}
	}
}

// shownOf tells what shows each of some lists.
func shownOf[T any](lists [][]T) func() []string {
	return func() []string {
		var texts []string
		for _, list := range lists {
			texts = append(texts, fmt.Sprint(list))
		}
		return texts
	}
}

// listsOf are a config's lists of contexts, of entries, of cuts, and of values.
func listsOf(c part.Config) ([][]part.Context, [][]api.Entry, [][]part.Cut, [][]string) {
	var contexts [][]part.Context
	var entries [][]api.Entry
	cuts := [][]part.Cut{c.Top}
	var values [][]string
	for _, s := range c.Servers {
		contexts = append(contexts, s.Contexts)
		for _, context := range s.Contexts {
			entries, cuts = append(entries, context.Entries), append(cuts, context.Subs)
			values = append(values, valuesOf(context.Entries)...)
		}
	}
	return contexts, entries, cuts, values
}

func valuesOf(list []api.Entry) [][]string {
	var values [][]string
	for _, e := range list {
		for _, a := range e.Attrs {
			values = append(values, a.Values)
		}
	}
	return values
}

// R3: no list of an answer shares memory with another one, or with what is
// handed in.
func TestMemoryOfAnswers(t *testing.T) {
	list, cut := house(), cuts()
	split := func() part.Config {
		c, err := part.Split(list, cut, 4)
		if err != api.OK {
			t.Fatal(err)
		}
		return c
	}
	holdApart(t, "contexts", func() ([][]part.Context, func() []string) {
		contexts, _, _, _ := listsOf(split())
		return contexts, shownOf(contexts)
	})
	holdApart(t, "entries", func() ([][]api.Entry, func() []string) {
		_, entries, _, _ := listsOf(split())
		return entries, shownOf(entries)
	})
	holdApart(t, "cuts", func() ([][]part.Cut, func() []string) {
		_, _, cuts, _ := listsOf(split())
		return cuts, shownOf(cuts)
	})
	holdApart(t, "values", func() ([][]string, func() []string) {
		_, _, _, values := listsOf(split())
		return values, shownOf(values)
	})
	whole := config()
	holdApart(t, "joined values", func() ([][]string, func() []string) {
		joined, _, err := part.Join(whole)
		if err != api.OK {
			t.Fatal(err)
		}
		values := valuesOf(joined)
		return values, shownOf(values)
	})
	joined, cutAgain, _ := part.Join(whole)
	for _, e := range joined {
		clear(e.Attrs[:cap(e.Attrs)])
	}
	clear(joined[:cap(joined)])
	clear(cutAgain[:cap(cutAgain)])
	if !slices.EqualFunc(list, house(), entry.Same) || !slices.Equal(cut, cuts()) || !sameConfigs(whole, config()) {
		t.Errorf("written over: %s, %v, %s", show(list), cut, show(whole))
	}
}

// R3: nor do the texts of a config's lists.
func TestMemoryOfNames(t *testing.T) {
	c, _ := part.Split(house(), cuts(), 4)
	contexts, _, cuts, _ := listsOf(c)
	var names []string
	for _, context := range slices.Concat(contexts...) {
		names = append(names, context.Name)
	}
	for _, cut := range slices.Concat(cuts...) {
		names = append(names, cut.Name)
	}
	for i, name := range names {
		for _, other := range names[:i] {
			if unsafe.StringData(name) == unsafe.StringData(other) {
				t.Errorf("%q is there once", name)
			}
		}
	}
	if len(names) != 14 {
		t.Errorf("%q", names)
	}
}

// R3: no text that is handed in is kept in an answer.
func TestMemoryOfTexts(t *testing.T) {
	room := []byte("#dc=x#ou=b,dc=x#objectClass#person#dc#x#ou#b#")
	before := string(room)
	given := func(word string) string {
		return unsafe.String(&room[strings.Index(before, "#"+word+"#")+1], len(word))
	}
	list := []api.Entry{
		{Name: given("dc=x"), Attrs: []api.Attr{attr(given("dc"), given("x")), attr(given("objectClass"), given("person"))}},
		{Name: given("ou=b,dc=x"), Attrs: []api.Attr{attr(given("objectClass"), given("person")), attr(given("ou"), given("b"))}},
	}
	top, below := part.Cut{Name: given("dc=x")}, part.Cut{Name: given("ou=b,dc=x"), Server: 1}
	c, err := part.Split(list, []part.Cut{top, below}, 2)
	joined, cut, second := part.Join(part.Config{
		Servers: []part.Server{{Contexts: []part.Context{{Name: given("dc=x"), Entries: list[:1], Subs: []part.Cut{below}}}}, {Contexts: []part.Context{{Name: given("ou=b,dc=x"), Entries: list[1:]}}}},
		Top:     []part.Cut{top},
	})
	if err != api.OK || second != api.OK || string(room) != before {
		t.Fatalf("%v, %v; changed to %q", err, second, room)
	}
	shown := func() string { return fmt.Sprintf("%+v %+v %+v", c, joined, cut) }
	want := shown()
	for i := range room {
		room[i] = '!'
	}
	if shown() != want {
		t.Errorf("kept: %s, not %s", shown(), want)
	}
}

// R4: lists of no elements may be nil or empty.
func TestNoElements(t *testing.T) {
	bare := part.Config{Servers: []part.Server{{}, {Contexts: []part.Context{{Name: "dc=x", Entries: plains("dc=x")}}}}, Top: []part.Cut{{"dc=x", 1}}}
	empty := part.Config{Servers: []part.Server{{Contexts: []part.Context{}}, {Contexts: []part.Context{{Name: "dc=x", Entries: plains("dc=x"), Subs: []part.Cut{}}}}}, Top: []part.Cut{{"dc=x", 1}}}
	for _, c := range []part.Config{bare, empty} {
		holdJoin(t, c, plains("dc=x"), c.Top)
		holdFormed(t, "no elements", c, true)
		c.Servers[1].Contexts[0].Entries = c.Servers[1].Contexts[0].Entries[:0]
		holdNoJoin(t, "no entries", c)
		holdFormed(t, "no entries", c, true)
	}
	for _, list := range [][]api.Entry{nil, {}} {
		for _, cuts := range [][]part.Cut{nil, {}} {
			holdSplit(t, list, cuts, 2, part.Config{Servers: make([]part.Server, 2), Top: cuts})
			holdJoin(t, part.Config{Servers: make([]part.Server, 2), Top: cuts}, list, cuts)
			if at, ok := part.Context1(cuts, ""); at != 0 || ok {
				t.Errorf("Context1 of no cuts: %d, %v", at, ok)
			}
		}
		holdNoSplit(t, list, cuts(), 4, api.ErrArg)
	}
	holdNoJoin(t, "no servers", part.Config{Servers: []part.Server{}, Top: []part.Cut{}})
	holdFormed(t, "no servers", part.Config{Servers: []part.Server{}, Top: []part.Cut{}}, false)
}

// R1, R2: whatever comes, each call ends, and answers the same again.
func TestAgain(t *testing.T) {
	odd := []api.Entry{{}, {Name: "x"}, {Name: ","}, {Name: strings.Repeat("cn=a,", 1000), Attrs: make([]api.Attr, 1000)}, plain("dc=x"), alias("cn=al")}
	lists := [][]api.Entry{nil, odd, odd[4:], make([]api.Entry, 100000), house(), slices.Repeat(house(), 3), house()[:3]}
	oddCuts := []part.Cut{{}, {"x", -1}, {"dc=x", math.MaxInt}, {",", math.MinInt}, {strings.Repeat("dc=x,", 1000), 1}, {"DC=X", 0}, {"dc=x", 0}}
	cutLists := [][]part.Cut{nil, oddCuts, make([]part.Cut, 100000), cuts(), slices.Repeat(cuts(), 3), oddCuts[6:]}
	configs := []part.Config{{}, config(), {Servers: make([]part.Server, 100000)}}
	for _, list := range lists {
		for _, cuts := range cutLists {
			contexts := []part.Context{{Name: "dc=x", Entries: list, Subs: cuts}, {}, {Name: "o=y", Subs: cuts}}
			configs = append(configs, part.Config{Servers: []part.Server{{Contexts: contexts}, {}, {Contexts: contexts[1:]}}, Top: cuts}, part.Config{Servers: []part.Server{{Contexts: contexts[:1]}}, Top: cuts})
		}
	}
	for _, s := range spoils() {
		c := config()
		s.do(&c)
		configs = append(configs, c)
	}
	var answers [2]string
	for round := range answers {
		var text strings.Builder
		for _, cuts := range cutLists {
			for _, list := range lists {
				for _, servers := range []int{math.MinInt, -1, 0, 1, 4, 8, 9, math.MaxInt} {
					c, err := part.Split(list, cuts, servers)
					fmt.Fprintf(&text, "%q %v ", fmt.Sprint(c), err)
				}
			}
			for _, name := range []string{"", "dc=x", "cn=a,ou=b,dc=x", "x", ",", "\xff", `\`, strings.Repeat("dc=x,", 100000)} {
				at, ok := part.Context1(cuts, name)
				fmt.Fprintf(&text, "%d %v ", at, ok)
			}
		}
		for _, c := range configs {
			list, cuts, err := part.Join(c)
			fmt.Fprintf(&text, "%q %v %v %v ", list, cuts, err, part.Formed(c))
		}
		answers[round] = text.String()
	}
	if answers[0] != answers[1] {
		t.Error("answers differ")
	}
}
