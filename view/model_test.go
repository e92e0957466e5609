package view_test

import (
	"math/rand"
	"slices"
	"strings"
	"testing"

	"verger/api"
	"verger/entry"
	"verger/policy"
	"verger/view"
)

// place is a name by its parts' numbers, the lowest first; nil is the root, or
// nobody known.
type place []int

// partTexts are the writings of each part, the normal one first. Some parts'
// texts have others' in them.
func partTexts(part int) []string {
	return [][]string{
		{"dc=x", "DC=X", `dc=\58`},
		{"cn=a", "CN=A", `cn=\ a\ `},
		{"cn=a+ou=b", "ou=B+cn=A", `OU=\62+CN=a`},
		{`cn=a\,dc=x`, `CN=A\2cdc=X`, `cn=\61\,DC\3Dx`},
		{"ou=b", "OU=b", `ou=b\ \ `},
	}[part]
}

// partAttrs are what an entry has, whose name's first part is that one.
func partAttrs(part int) []api.Attr {
	cn, class, ou := attr("cn", "A", "b"), attr("objectClass", "person", "Top"), attr("ou", "c", "B")
	return [][]api.Attr{
		{attr("dc", "X"), class},
		{cn, attr("mail", "a@b"), class},
		{cn, class, ou},
		{attr("cn", "a,dc=x"), attr("mail", "M", "n"), class, ou},
		{class, ou, attr("userPassword", "p")},
	}[part]
}

func randomPlace(r *rand.Rand) place {
	// Mostly under the one part, so that names meet.
	var p place
	for range r.Intn(4) {
		p = append(p, r.Intn(5))
	}
	if r.Intn(4) > 0 {
		p = append(p, 0)
	}
	return p
}

// randomPlaces are so many places that aren't the root, at random; half of them
// are right under others.
func randomPlaces(r *rand.Rand, count int) []place {
	var list []place
	for len(list) < count {
		p := randomPlace(r)
		if len(list) > 0 && r.Intn(2) == 0 {
			p = append(place{r.Intn(5)}, list[r.Intn(len(list))]...)
		}
		if len(p) > 0 && len(p) <= api.MaxRDNs {
			list = append(list, p)
		}
	}
	return list
}

// text is a name's text, each part in the way that one tells.
func (p place) text(way func() int) string {
	var parts []string
	for _, part := range p {
		parts = append(parts, partTexts(part)[way()])
	}
	return strings.Join(parts, ",")
}

func (p place) normal() string {
	return p.text(func() int { return 0 })
}

func (p place) written(r *rand.Rand) string {
	return p.text(func() int { return r.Intn(3) })
}

// entry is that of a place that isn't the root.
func (p place) entry() api.Entry {
	return of(p.normal(), partAttrs(p[0])...)
}

func (p place) under(other place) bool {
	return len(p) >= len(other) && slices.Equal(p[len(p)-len(other):], other)
}

// ruling is a rule by what it is made of. Its who is *, -, = or @.
type ruling struct {
	who           string
	whose, target place
	attr          string
	rights        int
	allow         bool
}

// top is the name of a place's highest parts, so many at most.
func (p place) top(parts int) place {
	return p[max(0, len(p)-parts):]
}

// randomRulings are rules that mostly are about reading, and mostly allow.
func randomRulings(r *rand.Rand) []ruling {
	var list []ruling
	for range r.Intn(10) {
		m := ruling{who: string("**-=@@"[r.Intn(6)]), whose: randomPlace(r).top(r.Intn(3)), target: randomPlace(r).top(r.Intn(4)), rights: 1 + r.Intn(63) | r.Intn(2), allow: r.Intn(3) > 0}
		if r.Intn(2) == 0 {
			m.attr = []string{"cn", "mail", "objectClass", "ou"}[r.Intn(4)]
			m.allow = r.Intn(2) == 0
		}
		list = append(list, m)
	}
	if r.Intn(2) == 0 {
		list = append(list, ruling{who: "*", target: place{}, rights: read, allow: true})
	}
	return list
}

func rulesOf(list []ruling) []policy.Rule {
	var rules []policy.Rule
	for _, m := range list {
		rule := policy.Rule{Who: m.who, Target: m.target.normal(), Attr: m.attr, Rights: m.rights, Allow: m.allow}
		if m.who == "@" {
			rule.Who += m.whose.normal()
		}
		rules = append(rules, rule)
	}
	return rules
}

// mayRead tells what the rulings say of reading, by layer 11's words.
func mayRead(list []ruling, subject, name place, attr string) bool {
	for _, m := range list {
		known := len(subject) > 0
		its := m.who == "*" || m.who == "-" && !known || m.who == "=" && known && slices.Equal(subject, name) || m.who == "@" && known && subject.under(m.whose)
		if its && m.rights%2 == 1 && name.under(m.target) && (m.attr == "" || m.attr == attr) {
			return m.allow
		}
	}
	return false
}

// seen tells what is seen of a place's entry, and whether it is anything.
func seen(list []ruling, subject, p place) (api.Entry, bool) {
	for from := range p {
		if !mayRead(list, subject, p[from:], "") {
			return api.Entry{}, false
		}
	}
	e := p.entry()
	e.Attrs = slices.DeleteFunc(e.Attrs, func(a api.Attr) bool { return !mayRead(list, subject, p, a.Type) })
	return e, true
}

// isPart tells whether all of a seen entry is in one of the list.
func isPart(part api.Entry, list []api.Entry) bool {
	return slices.ContainsFunc(list, func(e api.Entry) bool {
		return e.Name == part.Name && !slices.ContainsFunc(part.Attrs, func(a api.Attr) bool {
			return !slices.Equal(entry.Values(e, a.Type), a.Values)
		})
	})
}

// P12.1, P12.2: many views, against a plain model; nothing is in one that isn't
// in the entries.
func TestMany(t *testing.T) {
	r := rand.New(rand.NewSource(12))
	hidden, cut, total := 0, 0, 0
	for range 1000 {
		rulings := randomRulings(r)
		places := randomPlaces(r, 8)
		subject := randomPlace(r)
		if r.Intn(3) == 0 {
			subject = places[r.Intn(len(places))]
		}
		var list, want []api.Entry
		for _, p := range places {
			total++
			list = append(list, p.entry())
			e, ok := seen(rulings, subject, p)
			if !ok {
				hidden++
				holdNothing(t, p.entry(), rulesOf(rulings), subject.written(r))
				continue
			}
			if len(e.Attrs) < len(p.entry().Attrs) {
				cut++
			}
			want = append(want, e)
			hold(t, p.entry(), rulesOf(rulings), subject.written(r), e)
		}
		holdOf(t, list, rulesOf(rulings), subject.written(r), want...)
		for _, e := range view.Of(list, rulesOf(rulings), subject.written(r)) {
			if !isPart(e, list) {
				t.Errorf("out of nothing: %s", show(e))
			}
		}
	}
	if hidden < total/4 || total-hidden < total/4 || cut < total/20 {
		t.Errorf("of %d %d were hidden, %d cut", total, hidden, cut)
	}
}

// P12.2: with the rules restricted to a context the view of entries under that
// is the same.
func TestRestricted(t *testing.T) {
	r := rand.New(rand.NewSource(122))
	shown, dropped, total := 0, 0, 1000
	for range total {
		rulings := randomRulings(r)
		rules := rulesOf(rulings)
		context, subject := randomPlace(r), randomPlace(r)
		var list, want []api.Entry
		for _, p := range append(randomPlaces(r, 5), context) {
			if !p.under(context) {
				p = append(p, context...)
			}
			if len(p) == 0 {
				continue
			}
			list = append(list, p.entry())
			if e, ok := seen(rulings, subject, p); ok {
				want = append(want, e)
			}
		}
		restricted := policy.Restrict(rules, context.written(r))
		if len(restricted) < len(rules) {
			dropped++
		}
		if len(want) > 0 {
			shown++
		}
		holdOf(t, list, rules, subject.written(r), want...)
		holdOf(t, list, restricted, subject.written(r), want...)
	}
	if shown < total/4 || dropped < total/4 {
		t.Errorf("of %d %d had something to show, %d fewer rules", total, shown, dropped)
	}
}
