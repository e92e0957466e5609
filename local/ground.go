package local

import (
	"slices"
	"strings"

	"verger/api"
	"verger/dn"
	"verger/part"
	"verger/policy"
	"verger/resolve"
	"verger/route"
	"verger/search"
	"verger/view"
	"verger/walk"
)

// root is the text of the root's name.
const root = ""

// ground is what a server holds, as who asks sees it.
type ground struct {
	config  part.Config
	server  int
	rules   []policy.Rule
	subject string
	// deref is the request's.
	deref int
	// views are those of the contexts that were looked at, by their numbers.
	views map[int][]api.Entry
	// pointers are in the order in which they come.
	pointers []Pointer
}

// Look tells the entries in the scope of a place that is held, and the Subs, or
// Tops, in it. Of a place that lies elsewhere a pointer is kept.
func (g *ground) Look(p walk.Place) ([]api.Entry, []walk.Place) {
	at, held := route.Held(g.config, g.server, p.Name)
	switch {
	case held:
		return search.Scope(g.view(at), p.Name, p.Scope), cutOff(g.contexts()[at].Subs, p)
	case p.Name == root:
		return nil, cutOff(g.config.Top, p)
	}
	g.point(p, g.deref)
	return nil, nil
}

// Lead tells which place one becomes that has an alias's name. Where the way
// leaves what is held, a pointer is kept.
func (g *ground) Lead(p walk.Place) (walk.Place, bool) {
	name, code := g.find(p.Name, true)
	further := walk.Place{Name: name, Scope: p.Scope}
	if code == api.Referral {
		// Who is pointed to goes on following.
		g.point(further, g.deref|api.Finding)
	}
	return further, code == api.Success
}

// find tells the name by which an entry that is held is found, or the root is,
// and Success; beside Referral how far the name was followed to who is nearer.
func (g *ground) find(normal string, follow bool) (string, int) {
	names := []string{normal}
	if follow {
		var code int
		names, code = walk.Names(normal, g.step)
		if code != api.Success {
			return "", code
		}
	}
	end := names[len(names)-1]
	if _, known := route.Nearer(g.config, g.server, end); known {
		return end, api.Referral
	}
	switch {
	// The server to which nobody is nearer to the root is the one that knows the
	// Top.
	case end == root || g.has(end):
		return end, api.Success
	case len(names) > 1:
		return "", api.AliasProblem
	}
	return "", api.NoSuchObject
}

// step is layer 13's, over the view of the context in which the name is held.
func (g *ground) step(name string) (string, bool, int) {
	at, held := route.Held(g.config, g.server, name)
	if !held {
		return name, false, api.Success
	}
	return resolve.Step(g.view(at), name)
}

// has tells whether a name is held, and its context's view has it.
func (g *ground) has(name string) bool {
	at, held := route.Held(g.config, g.server, name)
	return held && slices.ContainsFunc(g.view(at), func(e api.Entry) bool { return e.Name == name })
}

func (g *ground) contexts() []part.Context {
	return g.config.Servers[g.server].Contexts
}

// view tells what is seen of a context's entries.
func (g *ground) view(at int) []api.Entry {
	list, ok := g.views[at]
	if !ok {
		list = view.Of(g.contexts()[at].Entries, g.rules, g.subject)
		g.views[at] = list
	}
	return list
}

// point keeps a pointer to who is nearer to a place; where nobody is, there is
// none.
func (g *ground) point(p walk.Place, deref int) {
	if server, ok := route.Nearer(g.config, g.server, p.Name); ok {
		g.pointers = append(g.pointers, Pointer{Server: server, Name: strings.Clone(p.Name), Scope: p.Scope, Deref: deref})
	}
}

// cutOff tells the places that a place's scope has at cuts.
func cutOff(cuts []part.Cut, p walk.Place) []walk.Place {
	var places []walk.Place
	for _, cut := range cuts {
		switch p.Scope {
		case api.One:
			if parent, _ := dn.Parent(cut.Name); parent == p.Name {
				places = append(places, walk.Place{Name: cut.Name, Scope: api.Base})
			}
		case api.Sub:
			if dn.Under(cut.Name, p.Name) {
				places = append(places, walk.Place{Name: cut.Name, Scope: api.Sub})
			}
		}
	}
	return places
}
