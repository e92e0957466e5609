package walk

import (
	"slices"

	"verger/api"
	"verger/entry"
	"verger/filter"
)

// isTrue is what layer 7 evaluates a filter to that is TRUE.
const isTrue = 1

// Place is where a search looks: a name's normal text, and a scope.
type Place struct {
	Name  string
	Scope int
}

// Ground is what a search goes over.
type Ground interface {
	// Look tells the entries in the scope of a place, and the further places
	// that are cut off from it.
	Look(p Place) ([]api.Entry, []Place)
	// Lead tells which place one becomes that has an alias's name, when that is
	// followed, and whether it becomes a place there.
	Lead(p Place) (Place, bool)
}

// way is that of a search from place to place.
type way struct {
	ground Ground
	// follows tells whether aliases that are met are followed.
	follows bool
	filter  filter.Filter
	// places are in the order in which they come, each once.
	places []Place
	// followed are the names of the aliases that were.
	followed map[string]struct{}
	// found are in the order in which they come, and taken are their names.
	found []api.Entry
	taken map[string]struct{}
}

// Found tells the entries that a search from a place on finds, as they come: of
// each name the first one.
func Found(g Ground, first Place, follows bool, f filter.Filter) []api.Entry {
	w := way{
		ground:   g,
		follows:  follows,
		filter:   f,
		places:   []Place{first},
		followed: map[string]struct{}{},
		taken:    map[string]struct{}{},
	}
	// On the way further places come.
	for i := 0; i < len(w.places); i++ {
		w.look(w.places[i])
	}
	return w.found
}

// look takes all that is in the scope of a place.
func (w *way) look(p Place) {
	entries, further := w.ground.Look(p)
	for _, e := range entries {
		if w.leadsOn(e, p) {
			w.follow(e.Name, p.Scope)
		} else {
			w.take(e)
		}
	}
	for _, next := range further {
		w.goOn(next)
	}
}

// leadsOn tells whether an entry of a place is an alias that is to be followed.
func (w *way) leadsOn(e api.Entry, p Place) bool {
	if !w.follows || e.Name == p.Name {
		return false
	}
	_, ok := entry.Alias(e)
	return ok
}

// follow makes a further place of where an alias leads that was met in a place
// of that scope.
func (w *way) follow(name string, scope int) {
	// Met again, it leads to the same place: of the scope One there is just the
	// first place, and of the scope Sub further ones have that scope too.
	if _, ok := w.followed[name]; ok {
		return
	}
	w.followed[name] = struct{}{}
	if scope == api.One {
		scope = api.Base
	}
	if further, ok := w.ground.Lead(Place{Name: name, Scope: scope}); ok {
		w.goOn(further)
	}
}

// goOn has a further place looked at, if it isn't one already.
func (w *way) goOn(p Place) {
	if !slices.Contains(w.places, p) {
		w.places = append(w.places, p)
	}
}

// take takes an entry as found, if the filter says so, and none of its name is.
func (w *way) take(e api.Entry) {
	if _, ok := w.taken[e.Name]; ok {
		return
	}
	if filter.Eval(w.filter, e.Attrs) == isTrue {
		w.taken[e.Name] = struct{}{}
		w.found = append(w.found, e)
	}
}
