package resolve_test

import (
	"math/rand"
	"slices"
	"strings"
	"testing"

	"verger/api"
)

// place is a name by its parts' numbers, the lowest first; nil is the root.
type place []int

// partTexts are the writings of each part, the normal one first. Some parts'
// texts have others' in them.
func partTexts(part int) []string {
	return [][]string{
		{"dc=x", "DC=X", `dc=\58`},
		{"cn=a", "CN=A", `cn=\ a\ `},
		{`cn=a\,dc=x`, `CN=A\2cdc=X`, `cn=\61\,DC\3Dx`},
		{"cn=a+ou=b", "ou=B+cn=A", `OU=\62+CN=a`},
	}[part]
}

// text is a name's text, each part in the way that one tells.
func (p place) text(way func() int) string {
	var parts []string
	for _, part := range p {
		parts = append(parts, partTexts(part)[way()])
	}
	return strings.Join(parts, ",")
}

func (p place) normal() string {
	return p.text(func() int { return 0 })
}

func (p place) written(r *rand.Rand) string {
	return p.text(func() int { return r.Intn(3) })
}

func (p place) under(other place) bool {
	return len(p) >= len(other) && slices.Equal(p[len(p)-len(other):], other)
}

func randomPlace(r *rand.Rand, fewest, most int) place {
	var p place
	for range fewest + r.Intn(most-fewest+1) {
		p = append(p, r.Intn(4))
	}
	return p
}

// item is an entry by its name, and by its target, if it is an alias.
type item struct {
	name, target place
}

func randomItems(r *rand.Rand) []item {
	var items []item
	for range 2 + r.Intn(12) {
		m := item{name: randomPlace(r, 1, 3)}
		items = append(items, m)
	}
	for i := range items {
		switch r.Intn(6) {
		case 0:
			items[i].target = randomPlace(r, 1, 3)
		case 1, 2:
			// Mostly to what is there.
			items[i].target = items[r.Intn(len(items))].name
		}
	}
	return items
}

func entriesOf(items []item, r *rand.Rand) []api.Entry {
	var list []api.Entry
	for _, m := range items {
		if m.target == nil {
			list = append(list, plain(m.name.normal()))
		} else {
			list = append(list, alias(m.name.normal(), m.target.written(r)))
		}
	}
	return list
}

// step tells what a name becomes by the chapter's words, whether it does, and
// the code.
func step(items []item, p place) (place, bool, int) {
	var lead *item
	for i, m := range items {
		if m.target != nil && p.under(m.name) && (lead == nil || len(m.name) < len(lead.name)) {
			lead = &items[i]
		}
	}
	if lead == nil {
		return p, false, api.Success
	}
	next := slices.Concat(p[:len(p)-len(lead.name)], lead.target)
	if len(next) > api.MaxRDNs {
		return nil, false, api.AliasProblem
	}
	return next, true, api.Success
}

// find is Find by the chapter's words; came are the names ahead of this one.
func find(items []item, p place, follow bool, came []place) (place, bool, int) {
	if slices.ContainsFunc(came, func(q place) bool { return slices.Equal(p, q) }) || len(came) > 16 {
		return nil, false, api.AliasDereferencing
	}
	if follow {
		next, more, code := step(items, p)
		if code != api.Success {
			return nil, false, code
		}
		if more {
			return find(items, next, true, append(came, p))
		}
	}
	isThere := slices.ContainsFunc(items, func(m item) bool { return slices.Equal(m.name, p) })
	switch {
	case len(p) == 0 || isThere:
		return p, len(came) > 0, api.Success
	case len(came) > 0:
		return nil, false, api.AliasProblem
	}
	return nil, false, api.NoSuchObject
}

// holdModel holds Step and Find of a name to the model, and tells the code of
// Find of a name that is to be followed, and how it came.
func holdModel(t *testing.T, items []item, p place, r *rand.Rand) (int, bool) {
	t.Helper()
	list := entriesOf(items, r)
	if next, ok, code := step(items, p); code == api.Success {
		holdStep(t, list, p.written(r), next.normal(), ok)
	} else {
		holdNoStep(t, list, p.written(r), code)
	}
	if end, ok, code := find(items, p, false, nil); code == api.Success {
		holdFind(t, list, p.written(r), false, end.normal(), ok)
	} else {
		holdNoFind(t, list, p.written(r), false, code)
	}
	end, followed, code := find(items, p, true, nil)
	if code == api.Success {
		holdFind(t, list, p.written(r), true, end.normal(), followed)
	} else {
		holdNoFind(t, list, p.written(r), true, code)
	}
	return code, followed
}

// P13.1, P13.2: many lists and names, against a plain model.
func TestMany(t *testing.T) {
	r := rand.New(rand.NewSource(13))
	codes, followed := map[int]int{}, 0
	for range 5000 {
		items := randomItems(r)
		for range 3 {
			p := randomPlace(r, 0, r.Intn(3))
			// Mostly one of the list's names, or under one.
			if r.Intn(4) > 0 {
				p = append(p, items[r.Intn(len(items))].name...)
			}
			code, led := holdModel(t, items, p, r)
			codes[code]++
			if led {
				followed++
			}
		}
	}
	for _, code := range []int{api.Success, api.NoSuchObject, api.AliasProblem, api.AliasDereferencing} {
		if codes[code] < 500 {
			t.Errorf("code %d came %d times", code, codes[code])
		}
	}
	if followed < 500 {
		t.Errorf("%d were followed", followed)
	}
}

// P13.2: many ways that are long, or nearly around, against the model.
func TestManyLong(t *testing.T) {
	r := rand.New(rand.NewSource(132))
	codes, followed := map[int]int{}, 0
	for range 600 {
		// Names of three parts of the same lengths, so that none is above
		// another: each leads to the next, the last one anywhere.
		var names []place
		for _, n := range r.Perm(64)[:10+r.Intn(12)] {
			names = append(names, place{n % 4, n / 4 % 4, n / 16})
		}
		var items []item
		for i, name := range names[:len(names)-1] {
			items = append(items, item{name: name, target: names[i+1]})
		}
		end := item{name: names[len(names)-1]}
		if r.Intn(4) == 0 {
			end.target = names[r.Intn(len(names))]
		}
		items = append(items, end)
		r.Shuffle(len(items), func(i, j int) { items[i], items[j] = items[j], items[i] })
		code, led := holdModel(t, items, names[r.Intn(4)], r)
		codes[code]++
		if led {
			followed++
		}
	}
	if followed < 100 || codes[api.AliasDereferencing] < 100 {
		t.Errorf("%d were followed, codes %v", followed, codes)
	}
}
