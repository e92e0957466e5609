package search

import (
	"slices"

	"verger/api"
	"verger/resolve"
	"verger/walk"
)

// ground is a list that is searched, and the spots of its entries.
type ground struct {
	list  []api.Entry
	spots []spot
}

// Look tells the entries in the scope of a place. A list isn't cut, so there
// are no further places.
func (g ground) Look(p walk.Place) ([]api.Entry, []walk.Place) {
	above := pathOf(p.Name)
	var inside []api.Entry
	for _, s := range g.spots {
		if s.in(above, p.Scope) {
			inside = append(inside, s.entry)
		}
	}
	return inside, nil
}

// Lead tells which place one becomes by layer 13.
func (g ground) Lead(p walk.Place) (walk.Place, bool) {
	name, _, code := resolve.Find(g.list, p.Name, true)
	return walk.Place{Name: name, Scope: p.Scope}, code == api.Success
}

// found tells the spots of what a search from that base finds, in the order of
// names.
func found(list []api.Entry, base string, r Request) []spot {
	first := walk.Place{Name: base, Scope: r.Scope}
	g := ground{list: list, spots: spotsOf(list)}
	spots := spotsOf(walk.Found(g, first, r.Deref&api.Searching != 0, r.Filter))
	slices.SortFunc(spots, func(a, b spot) int { return slices.Compare(a.path, b.path) })
	return spots
}
