package part

import (
	"slices"

	"verger/api"
	"verger/entry"
	"verger/tree"
)

// Join tells the entries and the cuts of which Split tells the config.
func Join(c Config) ([]api.Entry, []Cut, api.Errno) {
	list, cuts := gathered(c)
	t, err := tree.Of(list)
	if err != api.OK || !canCut(t, cuts, len(c.Servers)) {
		return nil, nil, api.ErrForm
	}
	cuts = inOrder(cuts)
	if !same(c, lay(t.All(), cuts, len(c.Servers))) {
		return nil, nil, api.ErrForm
	}
	return t.All(), cuts, api.OK
}

// gathered tells all entries of a config, and the cuts by which its contexts
// would lie where they do.
func gathered(c Config) ([]api.Entry, []Cut) {
	var entries []api.Entry
	var cuts []Cut
	for i, server := range c.Servers {
		for _, context := range server.Contexts {
			entries = append(entries, context.Entries...)
			cuts = append(cuts, Cut{Name: context.Name, Server: i})
		}
	}
	return entries, cuts
}

// same tells whether all of two configs is alike.
func same(a, b Config) bool {
	return slices.Equal(a.Top, b.Top) && slices.EqualFunc(a.Servers, b.Servers, func(a, b Server) bool {
		return slices.EqualFunc(a.Contexts, b.Contexts, sameContext)
	})
}

func sameContext(a, b Context) bool {
	return a.Name == b.Name && slices.Equal(a.Subs, b.Subs) && slices.EqualFunc(a.Entries, b.Entries, entry.Same)
}
