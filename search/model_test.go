package search_test

import (
	"math/rand"
	"slices"
	"strings"
	"testing"

	"verger/api"
	"verger/entry"
	"verger/resolve"
	"verger/search"
)

// point is a name by its parts' numbers, the lowest first; nil is the root.
type point []int

// partTexts are the writings of each part, the normal one first. Some parts'
// texts have others' in them.
func partTexts(part int) []string {
	return [][]string{
		{"dc=x", "DC=X", `dc=\58`},
		{"cn=a", "CN=A", `cn=\ a\ `},
		{`cn=a\,dc=x`, `CN=A\2cdc=X`, `cn=\61\,DC\3Dx`},
		{"cn=a+ou=b", "ou=B+cn=A", `OU=\62+CN=a`},
	}[part]
}

// text is a name's text, each part in the way that one tells.
func (p point) text(way func() int) string {
	var parts []string
	for _, part := range p {
		parts = append(parts, partTexts(part)[way()])
	}
	return strings.Join(parts, ",")
}

func (p point) normal() string {
	return p.text(func() int { return 0 })
}

func (p point) written(r *rand.Rand) string {
	return p.text(func() int { return r.Intn(3) })
}

func (p point) under(other point) bool {
	return len(p) >= len(other) && slices.Equal(p[len(p)-len(other):], other)
}

// in tells whether a name is in the scope of another one.
func (p point) in(other point, scope int) bool {
	below := len(p) - len(other)
	return p.under(other) && (scope == api.Sub || scope == api.Base && below == 0 || scope == api.One && below == 1)
}

// order holds two names against each other by layer 6's words.
func order(p, q point) int {
	turn := func(p point) []string {
		var parts []string
		for _, part := range p {
			parts = append([]string{partTexts(part)[0]}, parts...)
		}
		return parts
	}
	return slices.Compare(turn(p), turn(q))
}

// item is an entry by its name, by its target, if it is an alias, and by a mail
// of its own, so that alike names' entries aren't alike.
type item struct {
	name, target point
	mail         string
}

func randomPoint(r *rand.Rand, fewest, most int) point {
	var p point
	for range fewest + r.Intn(most-fewest+1) {
		p = append(p, r.Intn(4))
	}
	return p
}

func randomItems(r *rand.Rand) []item {
	var items []item
	for i := range 2 + r.Intn(14) {
		m := item{name: randomPoint(r, 1, 3), mail: string(rune('a' + i))}
		if i > 0 && r.Intn(3) == 0 {
			m.name = append(point{r.Intn(4)}, items[r.Intn(i)].name...)
		}
		items = append(items, m)
	}
	for i := range items {
		switch r.Intn(8) {
		case 0:
			items[i].target = randomPoint(r, 1, 3)
		case 1, 2:
			// Mostly to what is there.
			items[i].target = items[r.Intn(len(items))].name
		}
	}
	return items
}

func (m item) entry() api.Entry {
	attrs := []api.Attr{attr("mail", m.mail)}
	if m.target != nil {
		attrs = append(attrs, attr("objectClass", "alias"), attr("aliasedObjectName", m.target.normal()))
	}
	return plain(m.name.normal(), attrs...)
}

func entriesOf(items []item) []api.Entry {
	var list []api.Entry
	for _, m := range items {
		list = append(list, m.entry())
	}
	return list
}

// asked is a random request by what its answer hangs on.
type asked struct {
	base         point
	scope, deref int
	// above is what a mail has to be above, to be found.
	above string
	size  int
}

func randomAsked(r *rand.Rand, items []item) asked {
	a := asked{base: randomPoint(r, 0, 1), scope: min(r.Intn(4), api.Sub), deref: r.Intn(4), above: string("aaaagm"[r.Intn(6)])}
	// Mostly one of the list's names, or right above it.
	if r.Intn(4) > 0 {
		a.base = items[r.Intn(len(items))].name
		a.base = a.base[r.Intn(2):]
	}
	if r.Intn(3) == 0 {
		a.size = r.Intn(5)
	}
	return a
}

// request is that of it, for the mails alone.
func (a asked) request(r *rand.Rand) search.Request {
	return search.Request{Base: a.base.written(r), Scope: a.scope, Deref: a.deref, Filter: parsed("(mail>=" + a.above + ")"), Attrs: []string{"MAIL"}, Size: a.size}
}

// followed tells where layer 13 finds a name, and its code.
func followed(items []item, p point, follow bool) (point, int) {
	name, _, code := resolve.Find(entriesOf(items), p.normal(), follow)
	if code != api.Success || name == "" {
		return nil, code
	}
	for _, m := range items {
		if m.name.normal() == name {
			return m.name, code
		}
	}
	panic(name)
}

// spread marks by the chapter's words all items that are found of a place, and
// of those further on; came are the places ahead of it.
func spread(items []item, a asked, p point, scope int, found []bool, came map[string]int) {
	if came[p.normal()]&(1<<scope) != 0 {
		return
	}
	came[p.normal()] |= 1 << scope
	for i, m := range items {
		if !m.name.in(p, scope) {
			continue
		}
		if a.deref%2 == 0 || m.target == nil || slices.Equal(m.name, p) {
			found[i] = found[i] || m.mail >= a.above
			continue
		}
		further, code := followed(items, m.name, true)
		if code != api.Success {
			continue
		}
		if scope == api.One {
			spread(items, a, further, api.Base, found, came)
		} else {
			spread(items, a, further, scope, found, came)
		}
	}
}

// answer is what Run is to answer, by a plain model, and how many places there
// were.
func answer(items []item, a asked) (search.Result, int) {
	base, code := followed(items, a.base, a.deref >= 2)
	if code != api.Success {
		return search.Result{Code: code}, 0
	}
	found, came := make([]bool, len(items)), map[string]int{}
	spread(items, a, base, a.scope, found, came)
	var list []item
	for i, m := range items {
		alike := func(other item) bool { return slices.Equal(m.name, other.name) }
		if found[i] && !slices.ContainsFunc(list, alike) {
			list = append(list, m)
		}
	}
	slices.SortFunc(list, func(m, n item) int { return order(m.name, n.name) })
	result := search.Result{Code: api.Success}
	for i, m := range list {
		if i == a.size && i > 0 {
			result.Code = api.SizeLimitExceeded
			break
		}
		result.Entries = append(result.Entries, api.Entry{Name: m.name.normal(), Attrs: []api.Attr{attr("mail", m.mail)}})
	}
	return result, len(came)
}

// P14.2: many lists and requests, against a plain model.
func TestMany(t *testing.T) {
	r := rand.New(rand.NewSource(14))
	codes, many, further := map[int]int{}, 0, 0
	for range 4000 {
		items := randomItems(r)
		list := entriesOf(items)
		for range 4 {
			a := randomAsked(r, items)
			want, places := answer(items, a)
			hold(t, list, a.request(r), want.Code, want.Entries...)
			codes[want.Code]++
			if len(want.Entries) > 2 {
				many++
			}
			if places > 1 {
				further++
			}
		}
	}
	for _, code := range []int{api.Success, api.SizeLimitExceeded, api.NoSuchObject, api.AliasProblem, api.AliasDereferencing} {
		if codes[code] < 300 {
			t.Errorf("code %d came %d times", code, codes[code])
		}
	}
	if many < 1000 || further < 500 {
		t.Errorf("%d had many entries, %d further places", many, further)
	}
}

// P14.1: many scopes, against the model.
func TestManyScopes(t *testing.T) {
	r := rand.New(rand.NewSource(141))
	inside, total := 0, 0
	for range 1000 {
		items := randomItems(r)
		list := entriesOf(items)
		for scope := api.Base; scope <= api.Sub; scope++ {
			above := randomAsked(r, items).base
			var want []api.Entry
			for i, m := range items {
				total++
				if m.name.in(above, scope) {
					inside++
					want = append(want, list[i])
				}
			}
			if got := search.Scope(list, above.written(r), scope); !slices.EqualFunc(got, want, entry.Same) {
				t.Errorf("%s, %q, %d: %s, not %s", show(list), above.normal(), scope, show(got), show(want))
			}
		}
	}
	if inside < total/10 || inside > total*9/10 {
		t.Errorf("of %d %d were inside", total, inside)
	}
}
