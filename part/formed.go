package part

import (
	"verger/api"
	"verger/dn"
	"verger/entry"
)

// Formed tells whether a config is one that can be asked, be it what Split
// tells or not.
func Formed(c Config) bool {
	// What is bounded is held against its bound ahead of all else, so that what
	// is far beyond it isn't gone through.
	if !isBounded(c) || !areNames(c.Top) {
		return false
	}
	for _, server := range c.Servers {
		for _, context := range server.Contexts {
			if !isName(context.Name) || !areNames(context.Subs) || !areFormed(context.Entries) {
				return false
			}
		}
	}
	return true
}

// isBounded tells whether there is no more in a config than may be, and at
// least one server.
func isBounded(c Config) bool {
	if len(c.Servers) < 1 || len(c.Servers) > api.MaxServers || len(c.Top) > api.MaxCuts {
		return false
	}
	contexts, entries := 0, 0
	for _, server := range c.Servers {
		contexts += len(server.Contexts)
		for _, context := range server.Contexts {
			if len(context.Subs) > api.MaxCuts {
				return false
			}
			entries += len(context.Entries)
		}
	}
	return contexts <= api.MaxCuts && entries <= api.MaxEntries
}

func areNames(cuts []Cut) bool {
	for _, cut := range cuts {
		if !isName(cut.Name) {
			return false
		}
	}
	return true
}

// isName tells whether a text is a name's normal text, and not the root's.
func isName(text string) bool {
	normal, err := dn.Normal(text)
	return err == api.OK && normal == text && text != root
}

func areFormed(list []api.Entry) bool {
	for _, e := range list {
		if !entry.Formed(e) {
			return false
		}
	}
	return true
}
