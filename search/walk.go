package search

import (
	"maps"
	"slices"

	"verger/api"
	"verger/entry"
	"verger/filter"
	"verger/resolve"
)

// isTrue is what layer 7 evaluates a filter to that is TRUE.
const isTrue = 1

// place is where a search looks: a name's normal text, and a scope.
type place struct {
	name  string
	scope int
}

// walk is a search on its way from place to place.
type walk struct {
	list    []api.Entry
	request Request
	// places are in the order in which they come, each once.
	places []place
	// followed are the names of the aliases that were.
	followed map[string]struct{}
	// found are those, by their names.
	found map[string]spot
}

// found tells the spots of what a search from that base finds, in the order of
// names.
func found(list []api.Entry, base string, r Request) []spot {
	w := walk{
		list:     list,
		request:  r,
		places:   []place{{name: base, scope: r.Scope}},
		followed: map[string]struct{}{},
		found:    map[string]spot{},
	}
	spots := spotsOf(list)
	// On the way further places come.
	for i := 0; i < len(w.places); i++ {
		w.look(spots, w.places[i])
	}
	return slices.SortedFunc(maps.Values(w.found), func(a, b spot) int { return slices.Compare(a.path, b.path) })
}

// look takes all that is in the scope of a place.
func (w *walk) look(spots []spot, p place) {
	above := pathOf(p.name)
	for _, s := range spots {
		switch {
		case !s.in(above, p.scope):
		case w.leadsOn(s, p):
			w.follow(s, p.scope)
		default:
			w.take(s)
		}
	}
}

// leadsOn tells whether a spot of a place is an alias that is to be followed.
func (w *walk) leadsOn(s spot, p place) bool {
	if w.request.Deref&api.Searching == 0 || s.name == p.name {
		return false
	}
	_, ok := entry.Alias(s.entry)
	return ok
}

// follow makes a further place of where an alias leads that was met in a place
// of that scope.
func (w *walk) follow(s spot, scope int) {
	// Met again, it leads to the same place: of the scope One there is just the
	// first place, and of the scope Sub further ones have that scope too.
	if _, ok := w.followed[s.name]; ok {
		return
	}
	w.followed[s.name] = struct{}{}
	name, _, code := resolve.Find(w.list, s.name, true)
	if code != api.Success {
		return
	}
	if scope == api.One {
		scope = api.Base
	}
	further := place{name: name, scope: scope}
	if !slices.Contains(w.places, further) {
		w.places = append(w.places, further)
	}
}

// take takes a spot as found, if the filter says so, and none of its name is.
func (w *walk) take(s spot) {
	if _, ok := w.found[s.name]; ok {
		return
	}
	if filter.Eval(w.request.Filter, s.entry.Attrs) == isTrue {
		w.found[s.name] = s
	}
}
