package part_test

import (
	"fmt"
	"math"
	"slices"
	"strings"
	"testing"

	"verger/api"
	"verger/dn"
	"verger/part"
)

// P15.2: a config without entries; servers without contexts.
func TestJoinNothing(t *testing.T) {
	for servers := 1; servers <= api.MaxServers; servers++ {
		holdJoin(t, part.Config{Servers: make([]part.Server, servers)}, nil, nil)
		// A server more, or fewer, is another config that Split tells.
		c := config()
		c.Servers = append(c.Servers[:3:3], make([]part.Server, servers-1)...)
		if servers < api.MaxServers-1 {
			holdJoin(t, c, house(), cuts())
		}
	}
	holdNoJoin(t, "no servers", part.Config{})
	holdNoJoin(t, "no servers", part.Config{Top: []part.Cut{{"dc=x", 0}}})
	holdNoJoin(t, "too many servers", part.Config{Servers: make([]part.Server, api.MaxServers+1)})
	c := config()
	c.Servers = append(c.Servers, make([]part.Server, api.MaxServers-3)...)
	holdNoJoin(t, "too many servers", c)
}

// spoil is a way to make of a house's config one that Split doesn't tell.
type spoil struct {
	told string
	do   func(c *part.Config)
}

// spoils are such ways.
func spoils() []spoil {
	// context tells a context of the config.
	context := func(c *part.Config, server, at int) *part.Context { return &c.Servers[server].Contexts[at] }
	return []spoil{
		{"the first server gone", func(c *part.Config) { c.Servers = c.Servers[1:] }},
		{"a server with contexts gone", func(c *part.Config) { c.Servers = c.Servers[:2] }},
		{"servers in another order", func(c *part.Config) { c.Servers[0], c.Servers[1] = c.Servers[1], c.Servers[0] }},
		{"an empty server ahead", func(c *part.Config) { c.Servers = slices.Insert(c.Servers, 0, part.Server{}) }},
		{"a context gone", func(c *part.Config) { c.Servers[1].Contexts = c.Servers[1].Contexts[:1] }},
		{"a context below gone", func(c *part.Config) { c.Servers[0].Contexts = c.Servers[0].Contexts[1:] }},
		{"a context twice", func(c *part.Config) { c.Servers[3].Contexts = c.Servers[1].Contexts[1:] }},
		{"a context twice at its server", func(c *part.Config) { c.Servers[1].Contexts = append(c.Servers[1].Contexts, *context(c, 1, 1)) }},
		{"a context at another server", func(c *part.Config) {
			c.Servers[3].Contexts, c.Servers[1].Contexts = c.Servers[1].Contexts[1:], c.Servers[1].Contexts[:1]
		}},
		{"contexts in another order", func(c *part.Config) { slices.Reverse(c.Servers[2].Contexts) }},
		{"a context without entries", func(c *part.Config) { context(c, 0, 1).Entries = nil }},
		{"a context of no entry's name", func(c *part.Config) {
			c.Servers[3].Contexts = []part.Context{{Name: "ou=z,dc=x"}}
			context(c, 2, 0).Subs = append(context(c, 2, 0).Subs, part.Cut{Name: "ou=z,dc=x", Server: 3})
		}},
		{"a context of another name", func(c *part.Config) { context(c, 1, 1).Name = "o=z" }},
		{"a context's name in great letters", func(c *part.Config) { context(c, 1, 1).Name = "O=Y" }},
		{"the root's context", func(c *part.Config) { c.Servers[3].Contexts = []part.Context{{Name: "", Subs: c.Top}} }},
		{"a name in great letters all over", func(c *part.Config) { context(c, 1, 1).Name, c.Top[3].Name = "O=Y", "O=Y" }},
		{"the first entry gone", func(c *part.Config) { context(c, 2, 0).Entries = context(c, 2, 0).Entries[1:] }},
		{"a parent gone", func(c *part.Config) {
			context(c, 1, 0).Entries = slices.Delete(slices.Clone(context(c, 1, 0).Entries), 3, 4)
		}},
		{"an entry twice", func(c *part.Config) {
			context(c, 2, 0).Entries = slices.Insert(slices.Clone(context(c, 2, 0).Entries), 1, plain("cn=a,dc=x"))
		}},
		{"an entry in two contexts", func(c *part.Config) { context(c, 1, 0).Entries = append(context(c, 1, 0).Entries, plain("cn=a,dc=x")) }},
		{"an entry in the context above", func(c *part.Config) {
			context(c, 2, 0).Entries = append(context(c, 2, 0).Entries, context(c, 0, 0).Entries[1])
			context(c, 0, 0).Entries = context(c, 0, 0).Entries[:1]
		}},
		{"an entry of elsewhere", func(c *part.Config) { context(c, 1, 1).Entries = append(context(c, 1, 1).Entries, plain("cn=q,dc=x")) }},
		{"entries in another order", func(c *part.Config) { slices.Reverse(context(c, 0, 0).Entries) }},
		{"an entry in the order of texts", func(c *part.Config) {
			e := context(c, 1, 0).Entries
			context(c, 1, 0).Entries = []api.Entry{e[1], e[4], e[2], e[0], e[3]}
		}},
		{"an entry that isn't formed", func(c *part.Config) { context(c, 0, 1).Entries[0].Attrs = nil }},
		{"an entry under an alias", func(c *part.Config) {
			context(c, 1, 0).Entries = slices.Insert(context(c, 1, 0).Entries, 3, plain("cn=a,cn=al,ou=b,dc=x"))
		}},
		{"a context of an alias", func(c *part.Config) {
			e := context(c, 1, 0).Entries
			c.Servers[3].Contexts = []part.Context{{Name: e[2].Name, Entries: e[2:3:3]}}
			context(c, 1, 0).Entries = slices.Delete(slices.Clone(e), 2, 3)
			context(c, 1, 0).Subs = slices.Insert(context(c, 1, 0).Subs, 0, part.Cut{Name: e[2].Name, Server: 3})
		}},
		{"a Sub gone", func(c *part.Config) { context(c, 2, 0).Subs = context(c, 2, 0).Subs[1:] }},
		{"all Subs gone", func(c *part.Config) { context(c, 1, 0).Subs = nil }},
		{"a Sub twice", func(c *part.Config) { context(c, 2, 0).Subs = append(context(c, 2, 0).Subs, context(c, 2, 0).Subs[1]) }},
		{"Subs in another order", func(c *part.Config) { slices.Reverse(context(c, 2, 0).Subs) }},
		{"a Sub at another server", func(c *part.Config) { context(c, 1, 0).Subs[0].Server = 1 }},
		{"a Sub at a server that isn't there", func(c *part.Config) { context(c, 2, 0).Subs[1].Server = 4 }},
		{"a Sub's name in great letters", func(c *part.Config) { context(c, 2, 0).Subs[1].Name = "OU=b b,dc=x" }},
		{"a Sub of the context below, too", func(c *part.Config) {
			context(c, 2, 0).Subs = slices.Insert(context(c, 2, 0).Subs, 1, context(c, 1, 0).Subs[0])
		}},
		{"a Sub of another context", func(c *part.Config) { context(c, 0, 0).Subs, context(c, 1, 0).Subs = context(c, 1, 0).Subs, nil }},
		{"a Sub without a context", func(c *part.Config) { context(c, 1, 1).Subs = []part.Cut{{"cn=a,o=y", 3}} }},
		{"a context among its Subs", func(c *part.Config) { context(c, 1, 1).Subs = []part.Cut{{"o=y", 1}} }},
		{"no Top", func(c *part.Config) { c.Top = nil }},
		{"the Top's first gone", func(c *part.Config) { c.Top = c.Top[1:] }},
		{"the Top's last gone", func(c *part.Config) { c.Top = c.Top[:3] }},
		{"the Top's first twice", func(c *part.Config) { c.Top = slices.Insert(c.Top, 0, c.Top[0]) }},
		{"the Top in another order", func(c *part.Config) { slices.Reverse(c.Top) }},
		{"the Top at another server", func(c *part.Config) { c.Top[2].Server = 2 }},
		{"a Sub in the Top", func(c *part.Config) { c.Top = slices.Insert(c.Top, 1, part.Cut{Name: "ou=b,dc=x", Server: 1}) }},
		{"a Top without a context", func(c *part.Config) { c.Top = append(c.Top, part.Cut{Name: "o=z", Server: 3}) }},
		{"the root in the Top", func(c *part.Config) { c.Top = slices.Insert(c.Top, 0, part.Cut{}) }},
	}
}

// P15.2: what Split doesn't tell isn't joined.
func TestNoJoin(t *testing.T) {
	holdJoin(t, config(), house(), cuts())
	for _, s := range spoils() {
		c := config()
		s.do(&c)
		if sameConfigs(c, config()) {
			t.Errorf("%s: nothing changed", s.told)
		}
		holdNoJoin(t, s.told, c)
	}
}

// P15.2: what Split tells is joined up to its bounds, and not beyond them.
func TestJoinLimits(t *testing.T) {
	list, top := wide(api.MaxEntries), part.Cut{Name: "dc=x"}
	c := part.Config{Servers: []part.Server{{Contexts: []part.Context{{Name: "dc=x", Entries: list[:api.MaxEntries]}}}}, Top: []part.Cut{top}}
	holdJoin(t, c, list[:api.MaxEntries], c.Top)
	c.Servers[0].Contexts[0].Entries = list
	holdNoJoin(t, "too many entries", c)
	for _, count := range []int{api.MaxCuts, api.MaxCuts + 1} {
		c := part.Config{Servers: []part.Server{{}}}
		for _, e := range list[1 : count+1] {
			name, _ := strings.CutSuffix(e.Name, ",dc=x")
			c.Servers[0].Contexts = append(c.Servers[0].Contexts, part.Context{Name: name, Entries: plains(name)})
			c.Top = append(c.Top, part.Cut{Name: name})
		}
		if count > api.MaxCuts {
			holdNoJoin(t, "too many cuts", c)
			continue
		}
		var names []string
		for _, cut := range c.Top {
			names = append(names, cut.Name)
		}
		holdJoin(t, c, plains(names...), c.Top)
	}
}

// holdFormed holds Formed to its answer.
func holdFormed(t *testing.T, told string, c part.Config, want bool) {
	t.Helper()
	if got := part.Formed(c); got != want {
		t.Errorf("%s: Formed(%s): %v", told, show(c), got)
	}
}

// P15.3: much that Split doesn't tell is formed, too.
func TestFormed(t *testing.T) {
	holdFormed(t, "a house's", config(), true)
	// These are not, since a name is no normal text, or the root's, or an entry
	// isn't formed, or there are too few or too many servers.
	not := map[string]bool{
		"a context's name in great letters": true, "the root's context": true, "a name in great letters all over": true, "an entry that isn't formed": true,
		"a Sub's name in great letters": true, "the root in the Top": true,
	}
	for _, s := range spoils() {
		c := config()
		s.do(&c)
		holdFormed(t, s.told, c, !not[s.told])
		delete(not, s.told)
	}
	if len(not) > 0 {
		t.Errorf("no such ways: %v", not)
	}
	e := alias("cn=al")
	odd := part.Config{
		Servers: []part.Server{{}, {Contexts: []part.Context{
			{Name: "o=gone", Entries: []api.Entry{e, e, plain("dc=x"), plain("cn=a,cn=al")}, Subs: []part.Cut{{"o=gone", 1}, {"dc=x", math.MaxInt}, {"dc=x", math.MinInt}}},
			{Name: "o=gone"},
		}}},
		Top: []part.Cut{{"o=other", -1}, {"cn=a,o=other", 8}, {"o=other", 1}},
	}
	holdFormed(t, "odd", odd, true)
	holdNoJoin(t, "odd", odd)
}

// P15.3: names that are no normal texts, or the root's, at each place.
func TestFormedNames(t *testing.T) {
	for name, want := range map[string]bool{
		"dc=x": true, "cn=a,ou=b,dc=x": true, `cn=a\,b+ou=c,dc=x`: true, `cn=\ff`: true, "dc=x y": true, strings.Repeat("cn=a,", api.MaxRDNs-1) + "dc=x": true,
		"": false, "DC=X": false, "dc=X": false, "dc=x  y": false, `dc=\58`: false, "ou=c+cn=a": false, "cn=\xff": false, `cn=\FF`: false, "dc=": false, "sn=a": false, "dc=x,": false, "cn=a, dc=x": false, ",": false, " ": false, "x": false,
		strings.Repeat("cn=a,", api.MaxRDNs) + "dc=x": false, strings.Repeat("dc=x,", 100000): false,
	} {
		normal, err := dn.Normal(name)
		if (err == api.OK && normal == name && name != "") != want {
			t.Fatalf("%q is normal: %v", name, !want)
		}
		for _, more := range []string{"o=a", "o=b,o=a"} {
			names := []string{more, name, more}
			for at := range names {
				names[0], names[at] = names[at], names[0]
				var contexts []part.Context
				var cuts []part.Cut
				for _, name := range names {
					contexts = append(contexts, part.Context{Name: name})
					cuts = append(cuts, part.Cut{Name: name})
				}
				plain := part.Context{Name: "o=a"}
				holdFormed(t, "contexts", part.Config{Servers: []part.Server{{}, {Contexts: contexts}}}, want)
				holdFormed(t, "Subs", part.Config{Servers: []part.Server{{Contexts: []part.Context{plain, {Name: "o=a", Subs: cuts}, plain}}, {}}}, want)
				holdFormed(t, "Top", part.Config{Servers: []part.Server{{Contexts: []part.Context{plain}}}, Top: cuts}, want)
			}
		}
	}
}

// P15.3: how many there may be.
func TestFormedLimits(t *testing.T) {
	for servers := range api.MaxServers + 3 {
		holdFormed(t, "servers", part.Config{Servers: make([]part.Server, servers)}, servers > 0 && servers <= api.MaxServers)
	}
	for _, count := range []int{0, 1, api.MaxCuts - 1, api.MaxCuts, api.MaxCuts + 1, 100000} {
		cuts := slices.Repeat([]part.Cut{{"dc=x", 0}}, count)
		holdFormed(t, "Top", part.Config{Servers: make([]part.Server, 1), Top: cuts}, count <= api.MaxCuts)
		// Of Subs there may be so many at each context.
		full := part.Context{Name: "o=y", Subs: slices.Repeat([]part.Cut{{"dc=x", 0}}, api.MaxCuts)}
		for at := range 3 {
			contexts := []part.Context{full, full, full}
			contexts[at].Subs = cuts
			holdFormed(t, "Subs", part.Config{Servers: []part.Server{{Contexts: contexts[:2]}, {Contexts: contexts[2:]}}, Top: full.Subs}, count <= api.MaxCuts)
		}
		// Of contexts, at all servers.
		contexts := slices.Repeat([]part.Context{{Name: "o=y"}}, count)
		for _, at := range []int{0, count / 2, count} {
			holdFormed(t, "contexts", part.Config{Servers: []part.Server{{Contexts: contexts[:at]}, {}, {Contexts: contexts[at:]}}}, count <= api.MaxCuts)
		}
	}
	for _, count := range []int{0, 1, api.MaxEntries - 1, api.MaxEntries, api.MaxEntries + 1, 100000} {
		list := slices.Repeat(plains("dc=x"), count)
		for _, at := range []int{0, count / 2, count} {
			lower, upper := []part.Context{{Name: "o=y", Entries: list[:at/2]}, {Name: "o=y", Entries: list[at/2 : at]}}, []part.Context{{Name: "o=y", Entries: list[at:]}}
			holdFormed(t, "entries", part.Config{Servers: []part.Server{{Contexts: upper}, {Contexts: lower}}}, count <= api.MaxEntries)
		}
	}
}

// P15.3: all entries are formed.
func TestFormedEntries(t *testing.T) {
	for i, wrong := range []api.Entry{{}, {Name: "dc=x"}, {Name: "DC=X", Attrs: plain("dc=x").Attrs}, {Attrs: plain("dc=x").Attrs}, {Name: "dc=y", Attrs: plain("dc=x").Attrs}, plain("dc=x")} {
		for at := range 3 {
			list := plains("dc=x", "cn=a,dc=x", "dc=x")
			list[at] = wrong
			c := part.Config{Servers: []part.Server{{Contexts: []part.Context{{Name: "dc=x", Entries: plains("dc=x")}}}, {Contexts: []part.Context{{Name: "o=y"}, {Name: "dc=x", Entries: list}}}}}
			holdFormed(t, fmt.Sprintf("entry %d at %d", i, at), c, i == 5)
		}
	}
}
