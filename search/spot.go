package search

import (
	"slices"

	"verger/api"
	"verger/dn"
	"verger/rdn"
	"verger/walk"
)

// root is the text of the root's name.
const root = ""

// separator stands between the parts of a name's text.
const separator = ','

// spot is an entry with its name's path. By paths names are ordered, and under
// one another; so a name is read just once.
type spot struct {
	entry api.Entry
	path  []string
}

// spotsOf tells the spots of a list's entries. What has no name is nowhere, and
// the root is no entry.
func spotsOf(list []api.Entry) []spot {
	spots := make([]spot, 0, len(list))
	for _, e := range list {
		name, err := dn.Normal(e.Name)
		if err == api.OK && name != root {
			spots = append(spots, spot{entry: e, path: pathOf(name)})
		}
	}
	return spots
}

// pathOf tells the path of a normal text: the texts of the name's parts, the
// highest first.
func pathOf(name string) []string {
	// Split makes one piece of it, and the root has no part.
	if name == root {
		return nil
	}
	path := rdn.Split(name, separator)
	slices.Reverse(path)
	return path
}

// in tells whether a spot is in the scope of the name of a path.
func (s spot) in(above []string, scope int) bool {
	if len(s.path) < len(above) || !slices.Equal(s.path[:len(above)], above) {
		return false
	}
	switch scope {
	case api.Base:
		return len(s.path) == len(above)
	case api.One:
		return len(s.path) == len(above)+1
	}
	return scope == api.Sub
}

// Scope tells the entries of a list that are in the scope of a name, in the
// list's order.
func Scope(list []api.Entry, name string, scope int) []api.Entry {
	normal, err := dn.Normal(name)
	if err != api.OK {
		return nil
	}
	inside, _ := ground{spots: spotsOf(list)}.Look(walk.Place{Name: normal, Scope: scope})
	for i, e := range inside {
		// Where nothing is asked for, all of an entry is answered.
		inside[i] = Select(e, Request{})
	}
	return inside
}
