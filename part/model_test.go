package part_test

import (
	"math/rand"
	"slices"
	"strings"
	"testing"

	"verger/api"
	"verger/entry"
	"verger/part"
)

// point is a name by its parts' numbers, the lowest first; nil is the root.
type point []int

// partTexts are the writings of each part, the normal one first. Some parts'
// texts have others' in them.
func partTexts(part int) []string {
	return [][]string{
		{"dc=x", "DC=X", `dc=\58`},
		{"cn=a", "CN=A", `cn=\ a\ `},
		{`cn=a\,dc=x`, `CN=A\2cdc=X`, `cn=\61\,DC\3Dx`},
		{"cn=a+ou=b", "ou=B+cn=A", `OU=\62+CN=a`},
	}[part]
}

// text is a name's text, each part in the way that one tells.
func (p point) text(way func() int) string {
	var parts []string
	for _, part := range p {
		parts = append(parts, partTexts(part)[way()])
	}
	return strings.Join(parts, ",")
}

func (p point) normal() string {
	return p.text(func() int { return 0 })
}

func (p point) written(r *rand.Rand) string {
	return p.text(func() int { return r.Intn(3) })
}

func (p point) under(other point) bool {
	return len(p) >= len(other) && slices.Equal(p[len(p)-len(other):], other)
}

// order holds two names against each other by layer 6's words.
func order(p, q point) int {
	turn := func(p point) []string {
		var parts []string
		for _, part := range p {
			parts = append([]string{partTexts(part)[0]}, parts...)
		}
		return parts
	}
	return slices.Compare(turn(p), turn(q))
}

// item is an entry by its name, and by whether it is an alias.
type item struct {
	name  point
	alias bool
}

func (m item) entry() api.Entry {
	if m.alias {
		return alias(m.name.normal())
	}
	return plain(m.name.normal())
}

func entriesOf(items []item) []api.Entry {
	var list []api.Entry
	for _, m := range items {
		list = append(list, m.entry())
	}
	return list
}

func find(items []item, p point) int {
	return slices.IndexFunc(items, func(m item) bool { return slices.Equal(m.name, p) })
}

// knife is a cut by its name's point.
type knife struct {
	name   point
	server int
}

func cutsOf(knives []knife) []part.Cut {
	var list []part.Cut
	for _, k := range knives {
		list = append(list, part.Cut{Name: k.name.normal(), Server: k.server})
	}
	return list
}

// isIn tells, by the chapter's words, whether what has that name is in the
// context of that one of the cuts.
func isIn(knives []knife, at int, p point) bool {
	for _, other := range knives {
		if len(other.name) > len(knives[at].name) && other.name.under(knives[at].name) && p.under(other.name) {
			return false
		}
	}
	return p.under(knives[at].name)
}

// isRightBelow tells whether the name of a cut is under that of another one,
// and not under one between.
func isRightBelow(knives []knife, low, high int) bool {
	for _, between := range knives {
		if len(between.name) < len(knives[low].name) && knives[low].name.under(between.name) && len(between.name) > len(knives[high].name) {
			return false
		}
	}
	return low != high && knives[low].name.under(knives[high].name)
}

// randomItems are a tree's, in the order of names.
func randomItems(r *rand.Rand) []item {
	var items []item
	for range 1 + r.Intn(14) {
		above := point(nil)
		if len(items) > 0 && r.Intn(5) > 0 {
			above = items[r.Intn(len(items))].name
		}
		name := append(point{r.Intn(4)}, above...)
		if at := find(items, above); at >= 0 && items[at].alias || find(items, name) >= 0 || len(name) > 5 {
			continue
		}
		items = append(items, item{name: name, alias: len(above) > 0 && r.Intn(8) == 0})
	}
	slices.SortFunc(items, func(m, n item) int { return order(m.name, n.name) })
	return items
}

// randomKnives are cuts that are good for a tree, in the order of names.
func randomKnives(r *rand.Rand, items []item, servers int) []knife {
	var knives []knife
	for _, m := range items {
		if !m.alias && (len(m.name) == 1 || r.Intn(3) == 0) {
			knives = append(knives, knife{name: m.name, server: r.Intn(servers)})
		}
	}
	return knives
}

// configOf is what Split is to tell of items and cuts that are good for them,
// both in the order of names.
func configOf(items []item, knives []knife, servers int) part.Config {
	c := part.Config{Servers: make([]part.Server, servers)}
	cuts := cutsOf(knives)
	for i, k := range knives {
		context := part.Context{Name: k.name.normal()}
		isTop := true
		for j := range knives {
			if isRightBelow(knives, j, i) {
				context.Subs = append(context.Subs, cuts[j])
			}
			isTop = isTop && !isRightBelow(knives, i, j)
		}
		if isTop {
			c.Top = append(c.Top, cuts[i])
		}
		for _, m := range items {
			if isIn(knives, i, m.name) {
				context.Entries = append(context.Entries, m.entry())
			}
		}
		c.Servers[k.server].Contexts = append(c.Servers[k.server].Contexts, context)
	}
	return c
}

// isGood tells whether these cuts are good for these items.
func isGood(items []item, knives []knife, servers int) bool {
	for i, k := range knives {
		at := find(items, k.name)
		if at < 0 || items[at].alias || k.server < 0 || k.server >= servers {
			return false
		}
		for _, other := range knives[:i] {
			if slices.Equal(other.name, k.name) {
				return false
			}
		}
	}
	return !slices.ContainsFunc(items, func(m item) bool {
		return len(m.name) == 1 && !slices.ContainsFunc(knives, func(k knife) bool { return slices.Equal(k.name, m.name) })
	})
}

// spoilt are the cuts with something else among them, mostly.
func spoilt(r *rand.Rand, items []item, knives []knife, servers int) []knife {
	more := knife{name: items[r.Intn(len(items))].name, server: r.Intn(servers+2) - 1}
	if r.Intn(3) == 0 {
		more.name = more.name[1:]
	}
	at := r.Intn(len(knives) + 1)
	switch r.Intn(3) {
	case 0:
		return slices.Insert(slices.Clone(knives), at, more)
	case 1:
		return slices.Delete(slices.Clone(knives), at/2, (at+1)/2)
	}
	return knives
}

// P15.1, P15.2, P15.4: many trees and cuts, against a plain model.
func TestMany(t *testing.T) {
	r := rand.New(rand.NewSource(15))
	good, bad, below := 0, 0, 0
	for range 3000 {
		items, servers := randomItems(r), 1+r.Intn(4)
		list := shuffled(entriesOf(items), r.Int63())
		knives := spoilt(r, items, randomKnives(r, items, servers), servers)
		cuts := shuffled(cutsOf(knives), r.Int63())
		if !isGood(items, knives, servers) {
			holdNoSplit(t, list, cuts, servers, api.ErrArg)
			bad++
			continue
		}
		slices.SortFunc(knives, func(a, b knife) int { return order(a.name, b.name) })
		want := configOf(items, knives, servers)
		holdSplit(t, list, cuts, servers, want)
		good++
		if len(knives) > len(want.Top) {
			below++
		}
	}
	if good < 800 || bad < 800 || below < 400 {
		t.Errorf("%d were cut, %d weren't, %d had Subs", good, bad, below)
	}
}

// P15.2: many names, against the model.
func TestManyContexts(t *testing.T) {
	r := rand.New(rand.NewSource(152))
	in, none := 0, 0
	randomPoint := func() point {
		var p point
		for range r.Intn(5) {
			p = append(p, r.Intn(2))
		}
		return p
	}
	for range 20000 {
		var knives []knife
		for range r.Intn(6) {
			knives = append(knives, knife{name: randomPoint()})
		}
		p, want, ok := randomPoint(), 0, false
		for i := len(knives) - 1; i >= 0; i-- {
			if isIn(knives, i, p) {
				want, ok = i, true
			}
		}
		if got, is := part.Context1(cutsOf(knives), p.written(r)); got != want || is != ok {
			t.Errorf("Context1(%v, %q): %d, %v, not %d, %v", cutsOf(knives), p.normal(), got, is, want, ok)
		}
		if ok {
			in++
		} else {
			none++
		}
	}
	if in < 5000 || none < 5000 {
		t.Errorf("%d were in one, %d in none", in, none)
	}
}

// changed is a config in which something was put elsewhere, or is gone, or is
// another time there, be it so told by Split or not.
func changed(r *rand.Rand, c part.Config) part.Config {
	pick := func() *part.Context {
		for {
			if s := c.Servers[r.Intn(len(c.Servers))]; len(s.Contexts) > 0 {
				return &s.Contexts[r.Intn(len(s.Contexts))]
			}
		}
	}
	from, to := pick(), pick()
	server := &c.Servers[r.Intn(len(c.Servers))]
	switch r.Intn(8) {
	case 0:
		from.Entries, to.Entries = moved(r, from.Entries, to.Entries, from == to)
	case 1:
		from.Subs, to.Subs = moved(r, from.Subs, to.Subs, from == to)
	case 2:
		from.Subs, c.Top = moved(r, from.Subs, c.Top, false)
	case 3:
		c.Top, from.Subs = moved(r, c.Top, from.Subs, false)
	case 4:
		c.Top[r.Intn(len(c.Top))].Server = r.Intn(len(c.Servers) + 1)
	case 5:
		server.Contexts = append(server.Contexts, *from)
	case 6:
		if len(server.Contexts) > 0 {
			server.Contexts = server.Contexts[1:]
		}
	case 7:
		from.Entries = from.Entries[:len(from.Entries)-1]
	}
	return c
}

// moved takes one out of a list, and puts it, mostly, into another one.
func moved[T any](r *rand.Rand, from, to []T, alike bool) ([]T, []T) {
	if len(from) == 0 {
		return from, to
	}
	at := r.Intn(len(from))
	one := from[at]
	from = slices.Delete(slices.Clone(from), at, at+1)
	if alike {
		to = from
	}
	if r.Intn(4) > 0 {
		to = slices.Insert(slices.Clone(to), r.Intn(len(to)+1), one)
	}
	if alike {
		from = to
	}
	return from, to
}

// told tells whether Split tells a config of some items and cuts: by what Join
// is to answer, by the words.
func told(c part.Config, items []item) ([]item, []knife, bool) {
	var there []item
	var knives []knife
	for i, s := range c.Servers {
		for _, context := range s.Contexts {
			for _, e := range context.Entries {
				there = append(there, items[slices.IndexFunc(items, func(m item) bool { return m.name.normal() == e.Name })])
			}
			name := slices.IndexFunc(items, func(m item) bool { return m.name.normal() == context.Name })
			knives = append(knives, knife{name: items[name].name, server: i})
		}
	}
	slices.SortFunc(there, func(m, n item) int { return order(m.name, n.name) })
	slices.SortFunc(knives, func(a, b knife) int { return order(a.name, b.name) })
	for i, m := range there {
		if i > 0 && slices.Equal(m.name, there[i-1].name) || len(m.name) > 1 && find(there, m.name[1:]) < 0 {
			return nil, nil, false
		}
	}
	if !isGood(there, knives, len(c.Servers)) || !sameConfigs(c, configOf(there, knives, len(c.Servers))) {
		return nil, nil, false
	}
	return there, knives, true
}

// P15.2: many configs, told by Split and not, against the model.
func TestManyJoins(t *testing.T) {
	r := rand.New(rand.NewSource(153))
	good, bad := 0, 0
	for range 4000 {
		items, servers := randomItems(r), 1+r.Intn(3)
		knives := randomKnives(r, items, servers)
		before := configOf(items, knives, servers)
		c := changed(r, configOf(items, knives, servers))
		there, cuts, ok := told(c, items)
		if !ok {
			holdNoJoin(t, "changed", c)
			bad++
			continue
		}
		holdJoin(t, c, entriesOf(there), cutsOf(cuts))
		if !sameConfigs(c, before) {
			good++
		}
	}
	if good < 150 || bad < 1500 {
		t.Errorf("%d were joined, though changed, %d weren't", good, bad)
	}
}

// P15.4: what is joined is what was cut, with all values as they were written.
func TestJoinUndoesSplit(t *testing.T) {
	for seed := range int64(20) {
		c, err := part.Split(shuffled(house(), seed), shuffled(cuts(), seed), 3+int(seed%4))
		list, cut, second := part.Join(c)
		if err != api.OK || second != api.OK || !slices.EqualFunc(list, house(), entry.Same) || !slices.Equal(cut, cuts()) {
			t.Errorf("%v, %v, %s, %v", err, second, show(list), cut)
		}
	}
}
