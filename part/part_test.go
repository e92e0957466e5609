package part_test

import (
	"fmt"
	"math"
	"math/rand"
	"slices"
	"strings"
	"testing"

	"verger/api"
	"verger/dn"
	"verger/entry"
	"verger/part"
	"verger/tree"
)

// attr makes an attribute.
func attr(typ string, values ...string) api.Attr {
	return api.Attr{Type: typ, Values: values}
}

// plain makes a formed entry of that name, with these attributes and what its
// name's first part says.
func plain(name string, more ...api.Attr) api.Entry {
	n, err := dn.Parse(name)
	if err != api.OK {
		panic(name)
	}
	attrs := append([]api.Attr{attr("objectClass", "top")}, more...)
	for _, pair := range n.Parts[0] {
		attrs = append(attrs, attr(pair.Type, pair.Value))
	}
	e, code := entry.Make(name, attrs)
	if code != api.Success {
		panic(name)
	}
	return e
}

// plains makes such entries of names.
func plains(names ...string) []api.Entry {
	var list []api.Entry
	for _, name := range names {
		list = append(list, plain(name))
	}
	return list
}

// alias makes one of these.
func alias(name string) api.Entry {
	return plain(name, attr("objectClass", "alias"), attr("aliasedObjectName", "dc=x"))
}

// house are entries of which the order of names isn't that of their texts; they
// stand in it.
func house() []api.Entry {
	return []api.Entry{
		plain("dc=x", attr("description", "First ", "second")),
		plain("cn=a,dc=x"),
		plain("ou=b,dc=x"),
		plain("cn=a,ou=b,dc=x", attr("mail", "A@b", "c@d")),
		alias("cn=al,ou=b,dc=x"),
		plain("ou=c,ou=b,dc=x"),
		plain("cn=a,ou=c,ou=b,dc=x"),
		plain("ou=d,ou=c,ou=b,dc=x"),
		plain("cn=a,ou=d,ou=c,ou=b,dc=x"),
		plain("ou=b b,dc=x"),
		plain("cn=a,ou=b b,dc=x"),
		plain(`ou=b\,dc=x,dc=x`),
		plain("dc=x y"),
		plain("cn=a,dc=x y"),
		plain(`o=c\,dc=x`),
		plain("o=y"),
	}
}

// cuts are some that are good for a house, in the order of names.
func cuts() []part.Cut {
	return []part.Cut{{"dc=x", 2}, {"ou=b,dc=x", 1}, {"ou=d,ou=c,ou=b,dc=x", 2}, {"ou=b b,dc=x", 0}, {"dc=x y", 2}, {`o=c\,dc=x`, 0}, {"o=y", 1}}
}

// config is what Split tells of a house, so cut, and of 4 servers.
func config() part.Config {
	h, c := house(), cuts()
	return part.Config{
		Servers: []part.Server{
			{Contexts: []part.Context{{Name: "ou=b b,dc=x", Entries: h[9:11:11]}, {Name: `o=c\,dc=x`, Entries: h[14:15:15]}}},
			{Contexts: []part.Context{{Name: "ou=b,dc=x", Entries: h[2:7:7], Subs: c[2:3:3]}, {Name: "o=y", Entries: h[15:]}}},
			{Contexts: []part.Context{{Name: "dc=x", Entries: slices.Concat(h[:2], h[11:12]), Subs: slices.Concat(c[1:2], c[3:4])}, {Name: "ou=d,ou=c,ou=b,dc=x", Entries: h[7:9:9]}, {Name: "dc=x y", Entries: h[12:14:14]}}},
			{},
		},
		Top: slices.Concat(c[:1], c[4:]),
	}
}

// show tells anything, or its beginning.
func show(v any) string {
	return fmt.Sprintf("%.1500q", fmt.Sprintf("%+v", v))
}

func sameConfigs(a, b part.Config) bool {
	return slices.Equal(a.Top, b.Top) && slices.EqualFunc(a.Servers, b.Servers, func(a, b part.Server) bool {
		return slices.EqualFunc(a.Contexts, b.Contexts, func(a, b part.Context) bool {
			return a.Name == b.Name && slices.Equal(a.Subs, b.Subs) && slices.EqualFunc(a.Entries, b.Entries, entry.Same)
		})
	})
}

// holdSplit holds Split to a config; Formed and Join to that, too, and so to
// P15.4.
func holdSplit(t *testing.T, list []api.Entry, cuts []part.Cut, servers int, want part.Config) {
	t.Helper()
	got, err := part.Split(list, cuts, servers)
	if err != api.OK || !sameConfigs(got, want) {
		t.Errorf("Split(%s, %v, %d): %s, %v\nnot %s", show(list), cuts, servers, show(got), err, show(want))
	}
	if !part.Formed(got) {
		t.Errorf("not formed: %s", show(got))
	}
	whole, err := tree.Of(list)
	if err != api.OK {
		t.Fatalf("no tree: %s", show(list))
	}
	ordered := slices.Clone(cuts)
	slices.SortFunc(ordered, func(a, b part.Cut) int { return dn.Compare(a.Name, b.Name) })
	holdJoin(t, got, whole.All(), ordered)
}

// holdNoSplit holds Split to an error.
func holdNoSplit(t *testing.T, list []api.Entry, cuts []part.Cut, servers int, want api.Errno) {
	t.Helper()
	// R5: beside it there is nothing.
	if got, err := part.Split(list, cuts, servers); err != want || !sameConfigs(got, part.Config{}) {
		t.Errorf("Split(%s, %v, %d): %s, %v, not %v", show(list), cuts, servers, show(got), err, want)
	}
}

// holdJoin holds Join to entries and cuts.
func holdJoin(t *testing.T, c part.Config, list []api.Entry, cuts []part.Cut) {
	t.Helper()
	got, cut, err := part.Join(c)
	if err != api.OK || !slices.EqualFunc(got, list, entry.Same) || !slices.Equal(cut, cuts) {
		t.Errorf("Join(%s): %s, %v, %v\nnot %s, %v", show(c), show(got), cut, err, show(list), cuts)
	}
}

// holdNoJoin holds Join to ErrForm.
func holdNoJoin(t *testing.T, told string, c part.Config) {
	t.Helper()
	// R5: beside it there is nothing.
	if got, cut, err := part.Join(c); len(got) > 0 || len(cut) > 0 || err != api.ErrForm {
		t.Errorf("%s: Join(%s): %s, %v, %v", told, show(c), show(got), cut, err)
	}
}

func shuffled[T any](list []T, seed int64) []T {
	list = slices.Clone(list)
	rand.New(rand.NewSource(seed)).Shuffle(len(list), func(i, j int) { list[i], list[j] = list[j], list[i] })
	return list
}

// The chapter's example.
func TestExample(t *testing.T) {
	list := plains("dc=x", "cn=a,dc=x", "ou=b,dc=x", "cn=a,ou=b,dc=x")
	below := part.Cut{Name: "ou=b,dc=x", Server: 1}
	holdSplit(t, list, []part.Cut{{"dc=x", 0}, below}, 2, part.Config{
		Servers: []part.Server{
			{Contexts: []part.Context{{Name: "dc=x", Entries: list[:2], Subs: []part.Cut{below}}}},
			{Contexts: []part.Context{{Name: "ou=b,dc=x", Entries: list[2:]}}},
		},
		Top: []part.Cut{{"dc=x", 0}},
	})
}

// P15.1, P15.4: a tree cut in some ways; in whatever order entries and cuts
// come, what is told is in the order of names.
func TestSplit(t *testing.T) {
	for seed := range int64(30) {
		holdSplit(t, shuffled(house(), seed), shuffled(cuts(), seed+100), 4, config())
	}
	// Without cuts below, all lies in the contexts of the top.
	tops := []part.Cut{{"o=y", 0}, {"dc=x y", 0}, {`o=c\,dc=x`, 0}, {"dc=x", 0}}
	h := house()
	holdSplit(t, h, tops, 1, part.Config{
		Servers: []part.Server{{Contexts: []part.Context{
			{Name: "dc=x", Entries: h[:12]}, {Name: "dc=x y", Entries: h[12:14]}, {Name: `o=c\,dc=x`, Entries: h[14:15]}, {Name: "o=y", Entries: h[15:]},
		}}},
		Top: []part.Cut{{"dc=x", 0}, {"dc=x y", 0}, {`o=c\,dc=x`, 0}, {"o=y", 0}},
	})
}

// P15.1: a Sub is the next cut below, at whichever server it is; what is under
// it isn't one.
func TestSubs(t *testing.T) {
	list := plains("dc=x", "ou=a,dc=x", "ou=b,ou=a,dc=x", "ou=c,ou=b,ou=a,dc=x", "ou=d,ou=c,ou=b,ou=a,dc=x", "ou=e,ou=a,dc=x")
	all := []part.Cut{{"dc=x", 0}, {"ou=b,ou=a,dc=x", 0}, {"ou=d,ou=c,ou=b,ou=a,dc=x", 1}, {"ou=e,ou=a,dc=x", 0}}
	holdSplit(t, list, all, 2, part.Config{
		Servers: []part.Server{
			{Contexts: []part.Context{
				{Name: "dc=x", Entries: list[:2], Subs: []part.Cut{all[1], all[3]}},
				{Name: "ou=b,ou=a,dc=x", Entries: list[2:4], Subs: all[2:3]},
				{Name: "ou=e,ou=a,dc=x", Entries: list[5:]},
			}},
			{Contexts: []part.Context{{Name: "ou=d,ou=c,ou=b,ou=a,dc=x", Entries: list[4:5]}}},
		},
		Top: all[:1],
	})
	// Each entry a context of its own.
	var chain []part.Cut
	want := part.Config{Servers: make([]part.Server, api.MaxServers)}
	for i, e := range list[:5] {
		chain = append(chain, part.Cut{Name: e.Name, Server: i % 3})
	}
	for i, cut := range chain {
		context := part.Context{Name: cut.Name, Entries: list[i : i+1], Subs: chain[min(i+1, 5):min(i+2, 5)]}
		want.Servers[cut.Server].Contexts = append(want.Servers[cut.Server].Contexts, context)
	}
	want.Top = chain[:1]
	holdSplit(t, list[:5], chain, api.MaxServers, want)
}

// noTrees are entries that are no tree's.
func noTrees() [][]api.Entry {
	h := house()
	tooMany := plains("dc=x")
	for i := range api.MaxEntries {
		tooMany = append(tooMany, plain(fmt.Sprintf("cn=%d,dc=x", i)))
	}
	return [][]api.Entry{
		h[1:], append(h[:3:3], h[3], h[2]), {{}}, {{Name: "dc=x"}}, plains("dc=x", "cn=a,ou=b,dc=x"), append(house(), plain("cn=a,cn=al,ou=b,dc=x")), tooMany,
		{{Name: "DC=X", Attrs: plain("dc=x").Attrs}}, {{Name: "", Attrs: plain("dc=x").Attrs}},
	}
}

// P15.1: what is no tree's isn't cut, whatever else is wrong.
func TestSplitNoTree(t *testing.T) {
	for _, list := range noTrees() {
		holdNoSplit(t, list, cuts(), 4, api.ErrForm)
		holdNoSplit(t, list, cuts(), 0, api.ErrForm)
		holdNoSplit(t, list, []part.Cut{{"dc=x", 9}, {"dc=x", -1}, {"", 0}}, 9, api.ErrForm)
		holdNoSplit(t, list, make([]part.Cut, api.MaxCuts+1), 1, api.ErrForm)
	}
}

// P15.1: how many servers there may be, and which a cut may name.
func TestSplitServers(t *testing.T) {
	list := plains("dc=x", "ou=b,dc=x")
	for _, servers := range []int{math.MinInt, -1, 0, api.MaxServers + 1, math.MaxInt} {
		holdNoSplit(t, nil, nil, servers, api.ErrArg)
		holdNoSplit(t, list, []part.Cut{{"dc=x", 0}}, servers, api.ErrArg)
	}
	for servers := 1; servers <= api.MaxServers; servers++ {
		holdSplit(t, nil, nil, servers, part.Config{Servers: make([]part.Server, servers)})
		for at := range servers {
			want := part.Config{Servers: make([]part.Server, servers), Top: []part.Cut{{"dc=x", at}}}
			want.Servers[at].Contexts = []part.Context{{Name: "dc=x", Entries: list}}
			holdSplit(t, list, want.Top, servers, want)
		}
		for _, at := range []int{math.MinInt, -1, servers, api.MaxServers + 1, math.MaxInt} {
			holdNoSplit(t, list, []part.Cut{{"dc=x", at}}, servers, api.ErrArg)
			holdNoSplit(t, list, []part.Cut{{"dc=x", 0}, {"ou=b,dc=x", at}}, servers, api.ErrArg)
		}
	}
}

// P15.1: cuts by names that are none's, or no normal texts, an alias's, or
// stand twice; and a top without a cut.
func TestSplitCuts(t *testing.T) {
	for _, name := range []string{
		"", "o=gone", "cn=gone,dc=x", "cn=a", "cn=a,ou=b", "DC=X", "OU=b,dc=x", `ou=\62,dc=x`, "ou=b ,dc=x", "ou=b,dc=x,", "dc=", ",", "ou=b, dc=x", `ou=b\2cdc=x,dc=x`, "\xff",
		"cn=al,ou=b,dc=x", "CN=al,ou=b,dc=x", "cn=a,cn=al,ou=b,dc=x", strings.Repeat("ou=b,", api.MaxRDNs) + "dc=x", strings.Repeat("dc=x,", 100000),
	} {
		holdNoSplit(t, house(), append(cuts(), part.Cut{Name: name}), 4, api.ErrArg)
		holdNoSplit(t, house(), append([]part.Cut{{name, 3}}, cuts()...), 4, api.ErrArg)
		holdNoSplit(t, nil, []part.Cut{{name, 0}}, 4, api.ErrArg)
	}
	for i, cut := range cuts() {
		for _, server := range []int{cut.Server, 3 - cut.Server} {
			holdNoSplit(t, house(), append(cuts(), part.Cut{Name: cut.Name, Server: server}), 4, api.ErrArg)
		}
		without := slices.Delete(cuts(), i, i+1)
		if _, err := part.Split(house(), without, 4); (err == api.ErrArg) != (dn.Depth(cut.Name) == 1) {
			t.Errorf("Split(%v): %v", without, err)
		}
		other := cuts()
		other[i].Name = strings.ToUpper(cut.Name)
		holdNoSplit(t, house(), other, 4, api.ErrArg)
	}
	holdNoSplit(t, house(), nil, 4, api.ErrArg)
	// What is an alias, right under the root, can be no cut's, and has to be.
	list := append(plains("dc=x"), alias("cn=al"))
	holdNoSplit(t, list, []part.Cut{{"dc=x", 0}}, 1, api.ErrArg)
	holdNoSplit(t, list, []part.Cut{{"dc=x", 0}, {"cn=al", 0}}, 1, api.ErrArg)
	// By its class alone it is none.
	list[1] = plain("cn=al", attr("objectClass", "ALIAS"))
	holdSplit(t, list, []part.Cut{{"dc=x", 0}, {"cn=al", 0}}, 1, part.Config{
		Servers: []part.Server{{Contexts: []part.Context{{Name: "cn=al", Entries: list[1:]}, {Name: "dc=x", Entries: list[:1]}}}},
		Top:     []part.Cut{{"cn=al", 0}, {"dc=x", 0}},
	})
}

// wide are a top and so many entries right under it, in the order of names.
func wide(count int) []api.Entry {
	list := plains("dc=x")
	for i := range count {
		list = append(list, plain(fmt.Sprintf("cn=%03d,dc=x", i)))
	}
	return list
}

// P15.1: as many cuts, and entries, as may be.
func TestSplitLimits(t *testing.T) {
	list := wide(api.MaxEntries - 1)
	all := []part.Cut{{"dc=x", 0}}
	for _, e := range list[1:api.MaxCuts] {
		all = append(all, part.Cut{Name: e.Name, Server: 7})
	}
	want := part.Config{Servers: make([]part.Server, 8), Top: all[:1]}
	want.Servers[0].Contexts = []part.Context{{Name: "dc=x", Entries: slices.Concat(list[:1], list[api.MaxCuts:]), Subs: all[1:]}}
	for i, e := range list[1:api.MaxCuts] {
		want.Servers[7].Contexts = append(want.Servers[7].Contexts, part.Context{Name: e.Name, Entries: list[i+1 : i+2]})
	}
	holdSplit(t, shuffled(list, 1), shuffled(all, 2), 8, want)
	holdNoSplit(t, list, append(all, part.Cut{Name: list[api.MaxCuts].Name}), 8, api.ErrArg)
	holdNoSplit(t, list, slices.Repeat(all[:1], 100000), 8, api.ErrArg)
}

// P15.2: the number of the cut in whose context a name is.
func TestContext1(t *testing.T) {
	list := slices.Insert(cuts(), 2, part.Cut{"ou=z,dc=x", 9}, part.Cut{"ou=b,dc=x", 3}, part.Cut{"cn=b,ou=b,dc=x", -1})
	for name, want := range map[string]int{
		"dc=x": 0, "DC=X": 0, `dc=\58`: 0, "cn=a,dc=x": 0, "ou=bb,dc=x": 0, `ou=b\,dc=x,dc=x`: 0, "cn=q,cn=q,cn=q,DC=x": 0, "ou=b,ou=c,dc=x": 0, "cn=a+ou=b,dc=x": 0, "cn=ou=b,dc=x": 0,
		"ou=b,dc=x": 1, "OU=B,dc=X": 1, "cn=a,ou=b,dc=x": 1, "cn=al,ou=b,dc=x": 1, "ou=b,ou=b,dc=x": 1, "ou=c,OU=\\62,dc=x": 1, "ou=e,ou=c,ou=b,dc=x": 1,
		"ou=z,dc=x": 2, "cn=a,ou=Z,dc=x": 2, "cn=B,ou=b,dc=x": 4, "cn=b,cn=b,ou=b,dc=x": 4,
		"ou=d,ou=c,ou=b,dc=x": 5, "cn=a,ou=D,ou=c,ou=b,dc=x": 5, "cn=a,ou=d,ou=d,ou=c,ou=b,dc=x": 5,
		"ou=b b,dc=x": 6, "cn=a,ou=B  b,dc=x": 6, "dc=x y": 7, "cn=a,dc=x  Y": 7, `o=c\,dc=x`: 8, `cn=a,o=c\2CDC=x`: 8, "o=y": 9, "ou=b,dc=x,o=y": 9,
		strings.Repeat("cn=a,", api.MaxRDNs-1) + "dc=x": 0,
	} {
		if got, ok := part.Context1(list, name); got != want || !ok {
			t.Errorf("Context1(%v, %q): %d, %v, not %d", list, name, got, ok, want)
		}
		// Alone, at another place.
		only := []part.Cut{{"uid=q", 1}, {"uid=q,dc=x", 2}, list[want], list[want]}
		if got, ok := part.Context1(only, name); got != 2 || !ok {
			t.Errorf("Context1(%v, %q): %d, %v", only, name, got, ok)
		}
		if got, ok := part.Context1(only[:2], name); got != 0 || ok {
			t.Errorf("Context1(%v, %q): %d, %v", only[:2], name, got, ok)
		}
	}
	for _, name := range []string{
		"", "o=x", "dc=y", "dc=xx", "cn=dc=x", `cn=a\,dc=x`, "cn=a", "dc=x,o=z", "dc=y,dc=z", "cn=a,dc=", "dc=x,", ",dc=x", "cn=a, dc=x", "sn=a,dc=x", " ", "\xff", "cn=\x00,dc=x",
		strings.Repeat("cn=a,", api.MaxRDNs) + "dc=x", "cn=" + strings.Repeat("a", api.MaxText) + ",dc=x", "cn=" + strings.Repeat("\x80", 200) + ",cn=" + strings.Repeat("\x80", 200) + ",dc=x",
	} {
		if got, ok := part.Context1(list, name); got != 0 || ok {
			t.Errorf("Context1(%v, %.300q): %d, %v", list, name, got, ok)
		}
	}
}

// P15.2: cuts' names are taken as they are written; the root's is above all.
func TestContext1AsWritten(t *testing.T) {
	for _, odd := range []string{"DC=X", "OU=B,dc=x", "cn=a,ou=b,DC=x", `ou=\62,dc=x`, "dc=x,", "dc=", ",", " ", "sn=a", "x", strings.Repeat("dc=x,", api.MaxRDNs) + "dc=x"} {
		for _, name := range []string{"", "dc=x", "ou=b,dc=x", "cn=a,ou=b,dc=x", odd, "cn=a," + odd} {
			if got, ok := part.Context1([]part.Cut{{odd, 0}}, name); got != 0 || ok {
				t.Errorf("Context1(%q, %q): %d, %v", odd, name, got, ok)
			}
			want := 0
			if normal, err := dn.Normal(name); err == api.OK && dn.Under(normal, "dc=x") {
				want = 1
			}
			if got, ok := part.Context1([]part.Cut{{odd, 0}, {"dc=x", 1}}, name); got != want || ok != (want == 1) {
				t.Errorf("Context1(%q and dc=x, %q): %d, %v", odd, name, got, ok)
			}
		}
	}
	all := []part.Cut{{"ou=b,dc=x", 0}, {"", 0}, {"", 1}}
	for name, want := range map[string]int{"": 1, "o=y": 1, "dc=x": 1, "cn=a,dc=x": 1, "ou=b,dc=x": 0, "cn=a,ou=b,dc=x": 0} {
		if got, ok := part.Context1(all, name); got != want || !ok {
			t.Errorf("Context1(%v, %q): %d, %v, not %d", all, name, got, ok, want)
		}
	}
	if got, ok := part.Context1(all, "dc="); got != 0 || ok {
		t.Errorf("Context1 of no name: %d, %v", got, ok)
	}
}
