package walk_test

import (
	"fmt"
	"slices"
	"strconv"
	"strings"
	"testing"

	"verger/api"
	"verger/filter"
	"verger/walk"
)

// P13.2, P17.1: a name is followed 16 times at most, and never to one that it
// was.
func TestNames(t *testing.T) {
	// count leads from 0 on to the last number, and what is behind that to a code.
	count := func(last, code int) func(string) (string, bool, int) {
		return func(name string) (string, bool, int) {
			n, _ := strconv.Atoi(name)
			if n == last {
				return name, false, code
			}
			return strconv.Itoa(n + 1), true, api.Success
		}
	}
	for last := range 30 {
		var want []string
		for n := range last + 1 {
			want = append(want, strconv.Itoa(n))
		}
		code := api.Success
		if last > 16 {
			want, code = nil, api.AliasDereferencing
		}
		if got, end := walk.Names("0", count(last, api.Success)); !slices.Equal(got, want) || end != code {
			t.Errorf("to %d: %q, %d", last, got, end)
		}
		// A step's own code comes first, that of a 17th one too.
		if last <= 16 {
			code = api.AliasProblem
		}
		if got, end := walk.Names("0", count(last, api.AliasProblem)); len(got) > 0 || end != code {
			t.Errorf("to %d: %q, %d", last, got, end)
		}
		steps := 0
		around := func(name string) (string, bool, int) {
			steps++
			n, _ := strconv.Atoi(name)
			return strconv.Itoa((n + 1) % (last + 1)), true, api.Success
		}
		if got, end := walk.Names("0", around); len(got) > 0 || end != api.AliasDereferencing {
			t.Errorf("around %d: %q, %d", last, got, end)
		}
		// What comes around isn't gone around again.
		if steps != min(last+1, 17) {
			t.Errorf("around %d: %d steps", last, steps)
		}
	}
}

// wood is what is told of each place, and where aliases lead; asked is what was
// asked for, in its order.
type wood struct {
	entries map[walk.Place][]api.Entry
	further map[walk.Place][]walk.Place
	leads   map[string]string
	asked   []string
}

func (w *wood) Look(p walk.Place) ([]api.Entry, []walk.Place) {
	w.asked = append(w.asked, fmt.Sprintf("%s/%d", p.Name, p.Scope))
	return w.entries[p], w.further[p]
}

func (w *wood) Lead(p walk.Place) (walk.Place, bool) {
	w.asked = append(w.asked, fmt.Sprintf("%s>%d", p.Name, p.Scope))
	name, ok := w.leads[p.Name]
	return walk.Place{Name: name, Scope: p.Scope}, ok
}

func plain(name, mail string) api.Entry {
	return api.Entry{Name: name, Attrs: []api.Attr{{Type: "mail", Values: []string{mail}}}}
}

func alias(name string) api.Entry {
	return api.Entry{Name: name, Attrs: []api.Attr{{Type: "aliasedObjectName", Values: []string{"cn=q"}}, {Type: "mail", Values: []string{name}}, {Type: "objectClass", Values: []string{"alias"}}}}
}

// hold holds a search to what it asks for, and to the mails that it finds.
func hold(t *testing.T, w *wood, p walk.Place, follows bool, text string, asked string, mails ...string) {
	t.Helper()
	f, _ := filter.Parse(text)
	w.asked = nil
	var got []string
	for _, e := range walk.Found(w, p, follows, f) {
		got = append(got, e.Attrs[len(e.Attrs)/2].Values[0])
	}
	if told := strings.Join(w.asked, " "); told != asked || !slices.Equal(got, mails) {
		t.Errorf("%v, %v, %s: %q, %q", p, follows, text, told, got)
	}
}

// P14.2, P17.1: places are taken once, in the order in which they come, and
// aliases followed once; of each name the first entry that is found counts.
func TestFound(t *testing.T) {
	at := func(name string, scope int) walk.Place { return walk.Place{Name: name, Scope: scope} }
	w := &wood{
		entries: map[walk.Place][]api.Entry{
			at("a", 2): {alias("a"), plain("p", "2"), alias("l"), plain("p", "3"), alias("m"), alias("none"), alias("l")},
			at("b", 2): {plain("p", "4"), alias("m"), plain("q", "1"), alias("back")},
			at("a", 1): {alias("l"), alias("m"), plain("r", "5")}, at("b", 0): {alias("b")}, at("c", 0): {plain("c", "7")}, at("c", 2): {plain("c", "6")},
		},
		further: map[walk.Place][]walk.Place{at("a", 2): {at("c", 2), at("b", 2), at("c", 2)}, at("a", 1): {at("c", 0)}, at("c", 2): {at("a", 2), at("d", 2)}},
		leads:   map[string]string{"l": "b", "m": "b", "back": "a"},
	}
	hold(t, w, at("a", 2), true, "(mail=*)", "a/2 l>2 m>2 none>2 b/2 back>2 c/2 d/2", "a", "2", "1", "6")
	hold(t, w, at("a", 2), true, "(mail>=3)", "a/2 l>2 m>2 none>2 b/2 back>2 c/2 d/2", "a", "3", "6")
	hold(t, w, at("a", 2), false, "(mail=*)", "a/2 c/2 b/2 d/2", "a", "2", "l", "m", "none", "6", "1", "back")
	// Of One what is met has the scope Base.
	hold(t, w, at("a", 1), true, "(mail=*)", "a/1 l>0 m>0 b/0 c/0", "5", "b", "7")
	hold(t, w, at("z", 2), true, "(mail=*)", "z/2")
}
