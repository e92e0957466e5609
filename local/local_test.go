package local_test

import (
	"fmt"
	"math"
	"slices"
	"strings"
	"testing"

	"verger/api"
	"verger/dn"
	"verger/entry"
	"verger/filter"
	"verger/local"
	"verger/part"
	"verger/policy"
	"verger/search"
)

// attr makes an attribute.
func attr(typ string, values ...string) api.Attr {
	return api.Attr{Type: typ, Values: values}
}

// thing makes a formed entry of that name, with these attributes and what its
// name's first part says.
func thing(name string, more ...api.Attr) api.Entry {
	n, _ := dn.Parse(name)
	attrs := append([]api.Attr{attr("objectClass", "top")}, more...)
	for _, pair := range n.Parts[0] {
		attrs = append(attrs, attr(pair.Type, pair.Value))
	}
	e, code := entry.Make(name, attrs)
	if code != api.Success {
		panic(name)
	}
	return e
}

// alias makes one of these that leads to the target.
func alias(name, target string) api.Entry {
	return thing(name, attr("objectClass", "alias"), attr("aliasedObjectName", target))
}

// things are plain entries of these names.
func things(names ...string) []api.Entry {
	var list []api.Entry
	for _, name := range names {
		list = append(list, thing(name))
	}
	return list
}

func parsed(text string) filter.Filter {
	f, err := filter.Parse(text)
	if err != api.OK {
		panic(text)
	}
	return f
}

// everything lets anybody read all; ahead of that are other rules.
func everything(ahead ...policy.Rule) []policy.Rule {
	return append(ahead, policy.Rule{Who: "*", Rights: 1, Allow: true})
}

// forbid keeps anybody from reading.
func forbid(target, attr string) policy.Rule {
	return policy.Rule{Who: "*", Target: target, Attr: attr, Rights: 1}
}

func cut(name string, server int) part.Cut {
	return part.Cut{Name: name, Server: server}
}

func to(server int, name string, scope, deref int) local.Pointer {
	return local.Pointer{Server: server, Name: name, Scope: scope, Deref: deref}
}

// context makes one without Subs.
func context(name string, list ...api.Entry) part.Context {
	return part.Context{Name: name, Entries: list}
}

// over makes the config of servers with these contexts, without a Top.
func over(servers ...[]part.Context) part.Config {
	c := part.Config{}
	for _, contexts := range servers {
		c.Servers = append(c.Servers, part.Server{Contexts: contexts})
	}
	return c
}

// county is a tree over four servers, of which the last one has nothing.
func county() ([]api.Entry, part.Config) {
	list := []api.Entry{
		thing("dc=x"), thing("cn=a,dc=x", attr("mail", "a@x")), thing("cn=b,cn=a,dc=x"), alias("cn=far,dc=x", "CN=C,ou=b,dc=x"), alias("cn=in,dc=x", "cn=near,dc=x"),
		alias("cn=lost,dc=x", "cn=gone,dc=x"), alias("cn=near,dc=x", "ou=f,dc=x"), alias("cn=none,dc=x", "cn=q,o=z"), alias("cn=self,dc=x", "cn=self,dc=x"),
		thing("ou=b,dc=x"), thing("cn=c,ou=b,dc=x"), thing("ou=d,ou=b,dc=x"), thing("cn=e,ou=d,ou=b,dc=x"),
		thing("ou=f,dc=x"), thing("cn=g,ou=f,dc=x"), thing("ou=i,ou=f,dc=x"),
		thing("o=y"), alias("cn=back,o=y", "dc=x"), alias("cn=down,o=y", "ou=d,ou=b,dc=x"), thing("cn=h,o=y"),
	}
	c, err := part.Split(list, []part.Cut{cut("dc=x", 0), cut("ou=b,dc=x", 1), cut("ou=d,ou=b,dc=x", 2), cut("ou=f,dc=x", 0), cut("ou=i,ou=f,dc=x", 1), cut("o=y", 2)}, 4)
	if err != api.OK {
		panic(err)
	}
	return list, c
}

// noNames are texts without a normal text.
func noNames() []string {
	return []string{
		" ", ",", "x", "dc=", "dc=x,", ",dc=x", "cn=a, dc=x", "sn=a,dc=x", "cn=a+cn=b", `\`, "cn=\x00", "*",
		strings.Repeat("cn=a,", api.MaxRDNs) + "dc=x", "cn=" + strings.Repeat("a", api.MaxText), strings.Repeat("dc=x,", 100000),
		// Its normal text is longer than it is.
		"cn=" + strings.Repeat("\x80", 200) + ",cn=" + strings.Repeat("\x80", 200),
	}
}

// notFormed are requests that aren't.
func notFormed() []search.Request {
	return []search.Request{
		{Scope: -1}, {Scope: 3}, {Scope: math.MaxInt}, {Deref: -1}, {Deref: 4}, {Deref: math.MinInt}, {Size: -1}, {Size: math.MinInt},
		{Filter: filter.Filter{Kind: 9}}, {Filter: filter.Filter{Kind: 2}}, {Filter: filter.Filter{Kind: 7, Attr: "cn", Value: "a"}},
	}
}

// unformed are configs that aren't, with a server 0.
func unformed() []part.Config {
	_, c := county()
	c.Top = slices.Repeat(c.Top[:1], api.MaxCuts+1)
	odd := thing("cn=a,dc=x")
	odd.Attrs = odd.Attrs[1:]
	return []part.Config{
		c, over(make([][]part.Context, api.MaxServers+1)...), over([]part.Context{context("DC=X")}), over([]part.Context{context("")}), over(nil, []part.Context{context("dc=x", odd)}),
		over([]part.Context{{Name: "dc=x", Subs: []part.Cut{cut("x", 0)}}}), {Servers: make([]part.Server, 1), Top: []part.Cut{cut("", 0)}},
	}
}

// show tells a result, or its beginning.
func show(r local.Result) string {
	return fmt.Sprintf("%.2000s", fmt.Sprintf("%d %q %v", r.Code, r.Entries, r.Pointers))
}

func same(a, b local.Result) bool {
	return a.Code == b.Code && slices.EqualFunc(a.Entries, b.Entries, entry.Same) && slices.Equal(a.Pointers, b.Pointers)
}

func namesOf(list []api.Entry) []string {
	var names []string
	for _, e := range list {
		names = append(names, e.Name)
	}
	return names
}

// asked is a request at a server, by all that is to be found.
type asked struct {
	server       int
	base         string
	scope, deref int
}

func (a asked) request() search.Request {
	return search.Request{Base: a.base, Scope: a.scope, Deref: a.deref, Filter: parsed("(objectClass=*)")}
}

// hold holds Run, of who may read all, to Success, the names that it answers,
// and the pointers.
func hold(t *testing.T, c part.Config, a asked, names []string, pointers ...local.Pointer) {
	t.Helper()
	got := local.Run(c, everything(), a.server, "", a.request())
	if got.Code != api.Success || !slices.Equal(namesOf(got.Entries), names) || !slices.Equal(got.Pointers, pointers) {
		t.Errorf("%+v: %d, %q, %v, not %q, %v", a, got.Code, namesOf(got.Entries), got.Pointers, names, pointers)
	}
}

// holdCode holds Run to a code, and nothing (R5) beside it but these pointers.
func holdCode(t *testing.T, c part.Config, a asked, code int, pointers ...local.Pointer) {
	t.Helper()
	if got := local.Run(c, everything(), a.server, "", a.request()); !same(got, local.Result{Code: code, Pointers: pointers}) {
		t.Errorf("%+v: %s, not %d, %v", a, show(got), code, pointers)
	}
}

// The chapter's example.
func TestExample(t *testing.T) {
	c := over([]part.Context{{Name: "dc=x", Entries: things("dc=x", "cn=a,dc=x"), Subs: []part.Cut{cut("ou=b,dc=x", 1)}}}, []part.Context{context("ou=b,dc=x", thing("ou=b,dc=x"))})
	c.Top = []part.Cut{cut("dc=x", 0)}
	hold(t, c, asked{0, "dc=x", api.Sub, api.Never}, []string{"dc=x", "cn=a,dc=x"}, to(1, "ou=b,dc=x", api.Sub, 0))
}

// P17.1, P17.2: what is asked ahead of the base, in its order (R6).
func TestAhead(t *testing.T) {
	_, good := county()
	for _, call := range []func(part.Config, []policy.Rule, int, string, search.Request) local.Result{local.Run, local.Manage} {
		holdCode := func(c part.Config, server int, r search.Request, code int) {
			t.Helper()
			if got := call(c, everything(), server, "", r); !same(got, local.Result{Code: code}) {
				t.Errorf("%d, %.300q: %s, not %d", server, fmt.Sprint(r), show(got), code)
			}
		}
		bases := append(noNames(), "", "dc=x", "dc=gone", "cn=self,dc=x", "ou=b,dc=x")
		for _, base := range bases {
			for _, r := range append(notFormed(), search.Request{}, search.Request{Scope: api.Sub, Deref: api.Always}) {
				r.Base = base
				for _, c := range append(unformed(), part.Config{}) {
					holdCode(c, 0, r, api.OperationsError)
				}
				for _, server := range []int{-1, 4, 5, math.MinInt, math.MaxInt} {
					holdCode(good, server, r, api.OperationsError)
				}
			}
			for _, r := range notFormed() {
				r.Base = base
				for server := range good.Servers {
					holdCode(good, server, r, api.ProtocolError)
				}
			}
		}
		for _, base := range noNames() {
			for server := range good.Servers {
				holdCode(good, server, search.Request{Base: base, Scope: api.Sub, Deref: api.Always}, api.InvalidDNSyntax)
			}
		}
	}
}

// P17.1: a base that isn't held is referred to who is nearer, whatever may be
// seen; where nobody is, there is no such object.
func TestNotHeld(t *testing.T) {
	_, c := county()
	for scope := api.Base; scope <= api.Sub; scope++ {
		for deref := api.Never; deref <= api.Always; deref++ {
			for base, servers := range map[string][]int{
				"dc=x": {-1, 0, 0, 0}, "cn=gone,DC=X": {-1, 0, 0, 0}, "ou=b,dc=x": {1, -1, 0, 0}, `cn=c,OU=\42,dc=x`: {1, -1, 0, 0}, "ou=d,ou=b,dc=x": {1, 2, -1, 0},
				"ou=f,dc=x": {-1, 0, 0, 0}, "CN=gone,ou=i,ou=f,dc=x": {1, -1, 0, 0}, "o=y": {2, 0, -1, 0}, "cn=q,o=Y": {2, 0, -1, 0}, "o=z": {-1, 0, 0, 0}, "": {-1, 0, 0, 0},
			} {
				normal, _ := dn.Normal(base)
				for server, nearer := range servers {
					a := asked{server, base, scope, deref}
					if nearer >= 0 {
						holdCode(t, c, a, api.Referral, to(nearer, normal, scope, deref))
						if got := local.Run(c, nil, server, "", a.request()); got.Code != api.Referral || len(got.Pointers) != 1 {
							t.Errorf("%+v: %s", a, show(got))
						}
					}
				}
			}
			holdCode(t, c, asked{0, "o=z", scope, deref}, api.NoSuchObject)
			holdCode(t, c, asked{0, "ou=b,dc=y", scope, deref}, api.NoSuchObject)
			holdCode(t, c, asked{0, "cn=gone,dc=x", scope, deref}, api.NoSuchObject)
			holdCode(t, c, asked{1, "cn=gone,ou=b,dc=x", scope, deref}, api.NoSuchObject)
		}
	}
}

// P17.1: without aliases that are followed, the entries of the base's scope in
// its context, and the Subs: those that the server itself has are taken.
func TestScopes(t *testing.T) {
	_, c := county()
	aliases := []string{"cn=far,dc=x", "cn=in,dc=x", "cn=lost,dc=x", "cn=near,dc=x", "cn=none,dc=x", "cn=self,dc=x"}
	children := slices.Concat([]string{"cn=a,dc=x"}, aliases, []string{"ou=f,dc=x"})
	all := slices.Concat([]string{"dc=x", "cn=a,dc=x", "cn=b,cn=a,dc=x"}, aliases, []string{"ou=f,dc=x", "cn=g,ou=f,dc=x"})
	for _, deref := range []int{api.Never, api.Finding} {
		hold(t, c, asked{0, "DC=X", api.Base, deref}, []string{"dc=x"})
		hold(t, c, asked{0, "dc=x", api.One, deref}, children, to(1, "ou=b,dc=x", api.Base, deref))
		hold(t, c, asked{0, `dc=\58`, api.Sub, deref}, all, to(1, "ou=b,dc=x", api.Sub, deref), to(1, "ou=i,ou=f,dc=x", api.Sub, deref))
		hold(t, c, asked{0, "cn=a,dc=x", api.Sub, deref}, []string{"cn=a,dc=x", "cn=b,cn=a,dc=x"})
		hold(t, c, asked{0, "cn=a,dc=x", api.One, deref}, []string{"cn=b,cn=a,dc=x"})
		hold(t, c, asked{0, "ou=f,dc=x", api.Base, deref}, []string{"ou=f,dc=x"})
		hold(t, c, asked{0, "ou=f,dc=x", api.One, deref}, []string{"cn=g,ou=f,dc=x"}, to(1, "ou=i,ou=f,dc=x", api.Base, deref))
		hold(t, c, asked{0, "ou=f,dc=x", api.Sub, deref}, []string{"ou=f,dc=x", "cn=g,ou=f,dc=x"}, to(1, "ou=i,ou=f,dc=x", api.Sub, deref))
		hold(t, c, asked{1, "ou=b,dc=x", api.Sub, deref}, []string{"ou=b,dc=x", "cn=c,ou=b,dc=x"}, to(2, "ou=d,ou=b,dc=x", api.Sub, deref))
		hold(t, c, asked{1, "ou=i,ou=f,dc=x", api.Sub, deref}, []string{"ou=i,ou=f,dc=x"})
		hold(t, c, asked{2, "ou=d,ou=b,dc=x", api.Sub, deref}, []string{"ou=d,ou=b,dc=x", "cn=e,ou=d,ou=b,dc=x"})
	}
	// An alias that is the base itself isn't followed as one that is met.
	hold(t, c, asked{0, "cn=near,dc=x", api.Sub, api.Searching}, []string{"cn=near,dc=x"})
	hold(t, c, asked{0, "cn=near,dc=x", api.One, api.Searching}, nil)
}

// P17.1: the root is taken at the server 0 alone, by the Top.
func TestRoot(t *testing.T) {
	_, c := county()
	for deref := api.Never; deref <= api.Always; deref++ {
		hold(t, c, asked{0, "", api.Base, deref}, nil)
		hold(t, c, asked{0, "", api.One, deref}, []string{"dc=x"}, to(2, "o=y", api.Base, deref))
		for scope := api.Base; scope <= api.Sub; scope++ {
			for server := 1; server < len(c.Servers); server++ {
				holdCode(t, c, asked{server, "", scope, deref}, api.Referral, to(0, "", scope, deref))
			}
		}
	}
	hold(t, c, asked{0, "", api.Sub, api.Never}, namesOf(local.Run(c, everything(), 0, "", asked{0, "dc=x", api.Sub, api.Never}.request()).Entries),
		to(1, "ou=b,dc=x", api.Sub, 0), to(1, "ou=i,ou=f,dc=x", api.Sub, 0), to(2, "o=y", api.Sub, 0))
	// What the Top doesn't tell isn't there; of One just what is right below is.
	c = over([]part.Context{context("dc=x", thing("dc=x")), context("ou=b,dc=x", thing("ou=b,dc=x"))})
	hold(t, c, asked{0, "", api.Sub, api.Always}, nil)
	c.Top = []part.Cut{cut("ou=b,dc=x", 0), cut("ou=c,o=y", 3)}
	hold(t, c, asked{0, "", api.One, api.Never}, nil)
	hold(t, c, asked{0, "", api.Sub, api.Never}, []string{"ou=b,dc=x"}, to(3, "ou=c,o=y", api.Sub, 0))
}

// P17.1: aliases that are met are followed where Deref has its bit 1, from
// context to context, and become pointers where that leads elsewhere.
func TestMet(t *testing.T) {
	_, c := county()
	const base, sub = api.Base, api.Sub
	for _, deref := range []int{api.Searching, api.Always} {
		hold(t, c, asked{0, "dc=x", api.Sub, deref}, []string{"dc=x", "cn=a,dc=x", "cn=b,cn=a,dc=x", "ou=f,dc=x", "cn=g,ou=f,dc=x"},
			to(1, "ou=b,dc=x", sub, deref), to(1, "cn=c,ou=b,dc=x", sub, 3), to(1, "ou=i,ou=f,dc=x", sub, deref))
		hold(t, c, asked{0, "dc=x", api.One, deref}, []string{"cn=a,dc=x", "ou=f,dc=x"}, to(1, "ou=b,dc=x", base, deref), to(1, "cn=c,ou=b,dc=x", base, 3))
		hold(t, c, asked{2, "o=y", api.Sub, deref}, []string{"ou=d,ou=b,dc=x", "cn=e,ou=d,ou=b,dc=x", "o=y", "cn=h,o=y"}, to(0, "dc=x", sub, 3))
		hold(t, c, asked{2, "o=y", api.One, deref}, []string{"ou=d,ou=b,dc=x", "cn=h,o=y"}, to(0, "dc=x", base, 3))
		hold(t, c, asked{2, "o=y", api.Base, deref}, []string{"o=y"})
	}
	for _, deref := range []int{api.Never, api.Finding} {
		hold(t, c, asked{2, "o=y", api.Sub, deref}, []string{"o=y", "cn=back,o=y", "cn=down,o=y", "cn=h,o=y"})
	}
}

// P17.1: the pointer of an alias that was met, and that of a Sub, are two, as
// long as their Derefs aren't alike.
func TestMetAtSub(t *testing.T) {
	c := over([]part.Context{{Name: "dc=x", Entries: []api.Entry{thing("dc=x"), alias("cn=al,dc=x", "ou=b,dc=x"), alias("cn=am,dc=x", "cn=al,dc=x")}, Subs: []part.Cut{cut("ou=b,dc=x", 1), cut("ou=b,dc=x", 2)}}}, nil)
	hold(t, c, asked{0, "dc=x", api.Sub, api.Searching}, []string{"dc=x"}, to(1, "ou=b,dc=x", api.Sub, 1), to(1, "ou=b,dc=x", api.Sub, 3))
	hold(t, c, asked{0, "dc=x", api.Sub, api.Always}, []string{"dc=x"}, to(1, "ou=b,dc=x", api.Sub, 3))
	hold(t, c, asked{0, "dc=x", api.One, api.Searching}, nil, to(1, "ou=b,dc=x", api.Base, 1), to(1, "ou=b,dc=x", api.Base, 3))
}

// P17.1: the base is followed where Deref has its bit 2, over the contexts in
// which its names are held.
func TestFollowed(t *testing.T) {
	_, c := county()
	for _, deref := range []int{api.Finding, api.Always} {
		for scope := api.Base; scope <= api.Sub; scope++ {
			holdCode(t, c, asked{0, "cn=far,dc=x", scope, deref}, api.Referral, to(1, "cn=c,ou=b,dc=x", scope, deref))
			holdCode(t, c, asked{0, "cn=z,CN=Far,dc=x", scope, deref}, api.Referral, to(1, "cn=z,cn=c,ou=b,dc=x", scope, deref))
			holdCode(t, c, asked{2, "cn=near,cn=back,o=y", scope, deref}, api.Referral, to(0, "cn=near,dc=x", scope, deref))
			holdCode(t, c, asked{0, "cn=lost,dc=x", scope, deref}, api.AliasProblem)
			holdCode(t, c, asked{0, "cn=z,cn=near,dc=x", scope, deref}, api.AliasProblem)
			holdCode(t, c, asked{0, "cn=none,dc=x", scope, deref}, api.AliasProblem)
			holdCode(t, c, asked{0, "cn=self,dc=x", scope, deref}, api.AliasDereferencing)
			holdCode(t, c, asked{0, "cn=z,cn=self,dc=x", scope, deref}, api.AliasDereferencing)
			// What it becomes has too many parts.
			holdCode(t, c, asked{0, strings.Repeat("cn=z,", 10) + "cn=far,dc=x", scope, deref}, api.AliasProblem)
		}
		hold(t, c, asked{0, "cn=in,dc=x", api.Sub, deref}, []string{"ou=f,dc=x", "cn=g,ou=f,dc=x"}, to(1, "ou=i,ou=f,dc=x", api.Sub, deref))
		hold(t, c, asked{0, "CN=G,cn=in,dc=x", api.Base, deref}, []string{"cn=g,ou=f,dc=x"})
		hold(t, c, asked{2, "cn=e,cn=down,o=y", api.Sub, deref}, []string{"cn=e,ou=d,ou=b,dc=x"})
	}
	for _, deref := range []int{api.Never, api.Searching} {
		holdCode(t, c, asked{0, "cn=g,cn=in,dc=x", api.Sub, deref}, api.NoSuchObject)
		holdCode(t, c, asked{0, strings.Repeat("cn=z,", 10) + "cn=far,dc=x", api.Sub, deref}, api.NoSuchObject)
		hold(t, c, asked{0, "cn=far,dc=x", api.Sub, deref}, []string{"cn=far,dc=x"})
	}
}

// row are contexts dc=0 and so on, one a server in turns, each of an alias that
// leads to the next one, the last to the end.
func row(count, servers int, end string) part.Config {
	c := part.Config{Servers: make([]part.Server, servers)}
	for i := range count {
		name, target := fmt.Sprintf("dc=%d", i), fmt.Sprintf("dc=%d", i+1)
		if i == count-1 {
			target = end
		}
		server := &c.Servers[i%servers]
		server.Contexts = append(server.Contexts, context(name, alias(name, target)))
		c.Top = append(c.Top, cut(name, i%servers))
	}
	return c
}

// P17.1: a name is followed 16 times at most; where it isn't held, it isn't
// followed any more.
func TestSteps(t *testing.T) {
	for count := 1; count <= 20; count++ {
		a := asked{0, "cn=z,dc=0", api.Sub, api.Finding}
		there, gone := row(count, 1, "o=y"), row(count, 1, "o=z")
		there.Servers[0].Contexts = append(there.Servers[0].Contexts, context("o=y", things("cn=z,o=y")...))
		elsewhere, around := row(count, 1, "o=y"), row(count, 1, "dc=0")
		elsewhere.Top = append(elsewhere.Top, cut("o=y", 7))
		long := row(count, 1, strings.TrimSuffix(strings.Repeat("o=y,", api.MaxRDNs), ","))
		holdCode(t, around, a, api.AliasDereferencing)
		// The Step's error comes ahead of that of a 17th one.
		if count <= 17 {
			holdCode(t, long, a, api.AliasProblem)
		} else {
			holdCode(t, long, a, api.AliasDereferencing)
		}
		// Met, it leads nowhere, or there.
		met := row(count, 1, "o=y")
		met.Servers[0].Contexts = append(met.Servers[0].Contexts, context("dc=m", alias("cn=al,dc=m", "dc=0"), thing("dc=m")), context("o=y", things("o=y")...))
		if count > 16 {
			for _, c := range []part.Config{there, gone, elsewhere} {
				holdCode(t, c, a, api.AliasDereferencing)
			}
			hold(t, met, asked{0, "dc=m", api.Sub, api.Searching}, []string{"dc=m"})
			continue
		}
		hold(t, there, a, []string{"cn=z,o=y"})
		holdCode(t, gone, a, api.AliasProblem)
		holdCode(t, elsewhere, a, api.Referral, to(7, "cn=z,o=y", api.Sub, api.Finding))
		names := []string{"dc=m", "o=y"}
		if count == 16 {
			names = names[:1]
		}
		hold(t, met, asked{0, "dc=m", api.Sub, api.Searching}, names)
	}
	// Each server follows it as far as it holds it.
	c := row(18, 2, "dc=0")
	for i := range 18 {
		holdCode(t, c, asked{i % 2, fmt.Sprintf("dc=%d", i), api.One, api.Always}, api.Referral, to((i+1)%2, fmt.Sprintf("dc=%d", (i+1)%18), api.One, api.Always))
	}
}

// P17.1: only the context in which a name is held leads it, and only that has
// it, whatever else the server has.
func TestOwnContext(t *testing.T) {
	c := over([]part.Context{
		context("dc=x", thing("dc=x"), alias("ou=b,dc=x", "o=y"), thing("cn=q,ou=b,dc=x"), alias("cn=p,ou=b,dc=x", "cn=r,dc=x")),
		context("ou=b,dc=x", thing("cn=r,dc=x"), thing("cn=s,ou=b,dc=x")),
		context("o=y", things("o=y")...),
	})
	for deref := api.Never; deref <= api.Always; deref++ {
		hold(t, c, asked{0, "cn=s,ou=b,dc=x", api.Sub, deref}, []string{"cn=s,ou=b,dc=x"})
		holdCode(t, c, asked{0, "ou=b,dc=x", api.Sub, deref}, api.NoSuchObject)
		holdCode(t, c, asked{0, "cn=q,ou=b,dc=x", api.Base, deref}, api.NoSuchObject)
		holdCode(t, c, asked{0, "cn=p,ou=b,dc=x", api.Base, deref}, api.NoSuchObject)
		holdCode(t, c, asked{0, "cn=r,dc=x", api.Base, deref}, api.NoSuchObject)
	}
	// The entries of a context are in the scope wherever their names lie.
	hold(t, c, asked{0, "dc=x", api.Sub, api.Never}, []string{"dc=x", "ou=b,dc=x", "cn=p,ou=b,dc=x", "cn=q,ou=b,dc=x"})
	hold(t, c, asked{0, "dc=x", api.Sub, api.Searching}, []string{"dc=x", "cn=q,ou=b,dc=x"})
	// An alias that is met where it isn't held is asked for there.
	c.Servers[0].Contexts[0].Subs = []part.Cut{cut("ou=b,dc=x", 5)}
	c.Servers[0].Contexts = c.Servers[0].Contexts[:1]
	hold(t, c, asked{0, "dc=x", api.Sub, api.Searching}, []string{"dc=x", "cn=q,ou=b,dc=x"},
		to(5, "ou=b,dc=x", api.Sub, 1), to(5, "ou=b,dc=x", api.Sub, 3), to(5, "cn=p,ou=b,dc=x", api.Sub, 3))
}

// P17.1: of several entries of one name the first that is found counts, as the
// places come: aliases' ahead of Subs'.
func TestAlikeNames(t *testing.T) {
	holdMail := func(c part.Config, deref int, text, want string) {
		t.Helper()
		r := search.Request{Base: "dc=x", Scope: api.Sub, Deref: deref, Filter: parsed(text), Attrs: []string{"mail"}}
		got := local.Run(c, everything(), 0, "", r)
		if len(got.Entries) != 1 || !slices.Equal(entry.Values(got.Entries[0], "mail"), []string{want}) {
			t.Errorf("%d, %s: %s, not %s", deref, text, show(got), want)
		}
	}
	low := func(mail string) api.Entry { return thing("cn=a,ou=b,dc=x", attr("mail", mail)) }
	c := over([]part.Context{{Name: "dc=x", Entries: []api.Entry{low("1"), thing("dc=x"), low("2")}, Subs: []part.Cut{cut("ou=b,dc=x", 0)}}, context("ou=b,dc=x", low("3"))})
	for text, want := range map[string]string{"(mail=*)": "1", "(mail>=2)": "2", "(mail>=3)": "3"} {
		holdMail(c, api.Never, text, want)
	}
	lower := func(mail string) api.Entry { return thing("cn=a,ou=c,ou=b,dc=x", attr("mail", mail)) }
	c = over([]part.Context{
		{Name: "dc=x", Entries: []api.Entry{thing("dc=x"), alias("cn=al,dc=x", "ou=b,dc=x")}, Subs: []part.Cut{cut("ou=c,ou=b,dc=x", 0)}},
		context("ou=b,dc=x", lower("1"), thing("ou=b,dc=x")), context("ou=c,ou=b,dc=x", lower("2")),
	})
	holdMail(c, api.Searching, "(mail=*)", "1")
	holdMail(c, api.Never, "(mail=*)", "2")
}

// P17.1: Subs that are in the scope are further places, be their entries there,
// or seen, or not; so are those that lie below others.
func TestSubs(t *testing.T) {
	c := over([]part.Context{
		{Name: "dc=x", Entries: things("dc=x", "ou=p,dc=x"), Subs: []part.Cut{cut("ou=c,ou=b,dc=x", 3), cut("ou=b,dc=x", 0), cut("ou=d,ou=p,dc=x", 9), cut("o=y", 2), cut("cn=a,ou=b,dc=x", -1)}},
		context("ou=b,dc=x", things("ou=d,ou=b,dc=x", "cn=e,ou=d,ou=b,dc=x", "ou=q,dc=x")...), context("ou=c,ou=b,dc=x", things("cn=f,ou=c,ou=b,dc=x")...),
	}, nil)
	d := api.Never
	hold(t, c, asked{0, "dc=x", api.Sub, d}, []string{"dc=x", "cn=f,ou=c,ou=b,dc=x", "ou=d,ou=b,dc=x", "cn=e,ou=d,ou=b,dc=x", "ou=p,dc=x"}, to(9, "ou=d,ou=p,dc=x", api.Sub, d))
	hold(t, c, asked{0, "dc=x", api.One, d}, []string{"ou=p,dc=x"})
	hold(t, c, asked{0, "dc=x", api.Base, d}, []string{"dc=x"})
	hold(t, c, asked{0, "ou=p,dc=x", api.One, d}, nil, to(9, "ou=d,ou=p,dc=x", api.Base, d))
	holdCode(t, c, asked{0, "ou=b,dc=x", api.Sub, d}, api.NoSuchObject)
	// Below what the base is not.
	hold(t, c, asked{0, "ou=d,ou=b,dc=x", api.Sub, d}, []string{"ou=d,ou=b,dc=x", "cn=e,ou=d,ou=b,dc=x"})
	// A server may be said to have what it has not: it points to itself.
	c = over([]part.Context{{Name: "dc=x", Entries: things("dc=x"), Subs: []part.Cut{cut("ou=b,dc=x", 0)}}})
	hold(t, c, asked{0, "dc=x", api.Sub, d}, []string{"dc=x"}, to(0, "ou=b,dc=x", api.Sub, d))
	holdCode(t, c, asked{0, "ou=b,dc=x", api.One, d}, api.Referral, to(0, "ou=b,dc=x", api.One, d))
}

// P17.1: only what who asks sees is found, or leads anywhere; pointers are told
// whatever may be seen.
func TestSeen(t *testing.T) {
	_, c := county()
	ask := func(subject string, a asked, rules ...policy.Rule) local.Result {
		return local.Run(c, rules, a.server, subject, a.request())
	}
	holdSeen := func(got local.Result, names []string, pointers ...local.Pointer) {
		t.Helper()
		if got.Code != api.Success || !slices.Equal(namesOf(got.Entries), names) || !slices.Equal(got.Pointers, pointers) {
			t.Errorf("%s, not %q, %v", show(got), names, pointers)
		}
	}
	whole, below := asked{0, "dc=x", api.Sub, api.Always}, asked{0, "ou=f,dc=x", api.Sub, api.Always}
	far, b, i := to(1, "cn=c,ou=b,dc=x", api.Sub, 3), to(1, "ou=b,dc=x", api.Sub, 3), to(1, "ou=i,ou=f,dc=x", api.Sub, 3)
	// Without rules nothing of a base is seen; nor of one below what is shut.
	for _, rules := range [][]policy.Rule{nil, everything(forbid("dc=x", "")), everything(policy.Rule{}), slices.Repeat(everything(), api.MaxRules+1)} {
		for _, a := range []asked{whole, below, {0, "cn=far,dc=x", api.Sub, api.Finding}} {
			if got := ask("", a, rules...); !same(got, local.Result{Code: api.NoSuchObject}) {
				t.Errorf("%+v: %s", a, show(got))
			}
		}
		// The root is no entry.
		holdSeen(ask("", asked{0, "", api.Sub, api.Never}, rules...), nil, to(1, "ou=b,dc=x", api.Sub, 0), to(1, "ou=i,ou=f,dc=x", api.Sub, 0), to(2, "o=y", api.Sub, 0))
	}
	// What may not be read is as if it weren't there, its Subs are told still.
	names := []string{"dc=x", "cn=a,dc=x", "cn=b,cn=a,dc=x", "ou=f,dc=x", "cn=g,ou=f,dc=x"}
	holdSeen(ask("", whole, everything(forbid("ou=f,dc=x", ""), forbid("cn=b,cn=a,dc=x", ""))...), names[:2], b, far, i)
	holdSeen(ask("", whole, everything(forbid("cn=far,dc=x", ""))...), names, b, i)
	holdSeen(ask("", whole, everything(forbid("cn=far,dc=x", ""), forbid("cn=in,dc=x", ""), forbid("cn=near,dc=x", ""))...), names, b, i)
	holdSeen(ask("", asked{0, "dc=x", api.One, api.Always}, everything(forbid("cn=near,dc=x", ""), forbid("ou=f,dc=x", ""))...), names[1:2], to(1, "ou=b,dc=x", 0, 3), to(1, "cn=c,ou=b,dc=x", 0, 3))
	// What doesn't show that it is an alias, or where it leads, is none.
	for _, typ := range []string{"objectClass", "aliasedObjectName"} {
		r := asked{0, "cn=far,dc=x", api.Base, api.Always}.request()
		r.Filter = parsed("(cn=far)")
		got := local.Run(c, everything(forbid("cn=far,dc=x", typ)), 0, "", r)
		holdSeen(got, []string{"cn=far,dc=x"})
		if len(entry.Values(got.Entries[0], typ)) > 0 || len(got.Entries[0].Attrs) != 2 {
			t.Errorf("%s: %s", typ, show(got))
		}
	}
	// The filter is asked of what is seen.
	r := whole.request()
	r.Filter = parsed("(mail=a@x)")
	holdSeen(local.Run(c, everything(), 0, "", r), names[1:2], b, far, i)
	holdSeen(local.Run(c, everything(forbid("", "mail")), 0, "", r), nil, b, far, i)
	// It hangs on who asks.
	own := []policy.Rule{{Who: "@cn=a,dc=x", Target: "ou=f,dc=x", Rights: 1}, {Who: "@dc=x", Rights: 1, Allow: true}}
	holdSeen(ask("cn=b,dc=x", below, own...), names[3:], i)
	for _, subject := range []string{"cn=a,dc=x", "CN=z,CN=A,dc=x", "", "o=y", "x"} {
		if got := ask(subject, below, own...); !same(got, local.Result{Code: api.NoSuchObject}) {
			t.Errorf("%q: %s", subject, show(got))
		}
	}
}

// P17.1: the pointers come by their servers, then the order of names, then
// Scope, then Deref, each once.
func TestPointers(t *testing.T) {
	context := part.Context{Name: "dc=x", Entries: []api.Entry{thing("dc=x")}}
	sorted := []local.Pointer{to(-5, "cn=z", 2, 3)}
	for i, name := range []string{`dc=a\,b`, "dc=b", "cn=a,dc=b", "cn=b,cn=a,dc=b", "cn=a b,dc=b", "cn=a!,dc=b", "dc=b b"} {
		context.Entries = append(context.Entries, alias(fmt.Sprintf("cn=%d,dc=x", 9-i), name), alias(fmt.Sprintf("cn=m%d,dc=x", i), name))
		sorted = append(sorted, to(1, name, 2, 3))
	}
	context.Entries = append(context.Entries, alias("cn=z,dc=x", "cn=z"), alias("cn=10,dc=x", "cn=a,dc=x x"), alias("cn=11,dc=x", "dc=x x"), alias("cn=12,dc=x", "ou=b,dc=x"))
	for _, name := range []string{"ou=b,dc=x", "cn=a,dc=x", "cn=b,cn=a,dc=x", "cn=a,ou=b,dc=x"} {
		context.Subs = append(context.Subs, cut(name, 1))
	}
	sorted = append(sorted, to(1, "cn=a,dc=x", 2, 1), to(1, "cn=b,cn=a,dc=x", 2, 1), to(1, "ou=b,dc=x", 2, 1), to(1, "ou=b,dc=x", 2, 3), to(1, "cn=a,ou=b,dc=x", 2, 1), to(10, "dc=x x", 2, 3), to(10, "cn=a,dc=x x", 2, 3))
	c := over([]part.Context{context})
	c.Top = []part.Cut{cut("dc=b", 1), cut("dc=b b", 1), cut(`dc=a\,b`, 1), cut("cn=z", -5), cut("dc=x x", 10)}
	for range 3 {
		hold(t, c, asked{0, "dc=x", api.Sub, api.Searching}, []string{"dc=x"}, sorted...)
		slices.Reverse(c.Servers[0].Contexts[0].Entries)
		slices.Reverse(c.Servers[0].Contexts[0].Subs)
	}
	// The first place's scope is one, that of what comes of it another.
	c = over([]part.Context{{Name: "dc=x", Entries: []api.Entry{thing("dc=x"), alias("cn=al,dc=x", "ou=b,dc=x")}, Subs: []part.Cut{cut("ou=c,dc=x", 1), cut("ou=b,dc=x", 1)}}})
	hold(t, c, asked{0, "dc=x", api.One, api.Searching}, nil, to(1, "ou=b,dc=x", 0, 1), to(1, "ou=b,dc=x", 0, 3), to(1, "ou=c,dc=x", 0, 1))
}

// P17.1: what the filter says is found, in the order of names, and of that what
// is asked for is answered; Size isn't asked.
func TestAnswered(t *testing.T) {
	list, c := county()
	a := asked{0, "dc=x", api.Sub, api.Never}
	for _, size := range []int{0, 1, 2, math.MaxInt} {
		r := a.request()
		r.Size = size
		got := local.Run(c, everything(), 0, "", r)
		want := slices.Concat(list[:9], list[13:15])
		if !same(got, local.Result{Entries: want, Pointers: []local.Pointer{to(1, "ou=b,dc=x", 2, 0), to(1, "ou=i,ou=f,dc=x", 2, 0)}}) {
			t.Errorf("Size %d: %s", size, show(got))
		}
		r = search.Request{Base: "ou=f,dc=x", Scope: api.Sub, Filter: parsed("(|(cn=g)(mail=*))"), Attrs: []string{"CN", "mail"}, TypesOnly: size == 2, Size: size}
		entries := []api.Entry{{Name: "cn=g,ou=f,dc=x", Attrs: []api.Attr{attr("cn", "g")}}}
		if r.TypesOnly {
			entries[0].Attrs[0].Values = nil
		}
		if got := local.Run(c, everything(), 0, "", r); !same(got, local.Result{Entries: entries, Pointers: []local.Pointer{to(1, "ou=i,ou=f,dc=x", 2, 0)}}) {
			t.Errorf("Size %d: %s", size, show(got))
		}
		r.Attrs = []string{"1.1"}
		entries[0].Attrs = nil
		if got := local.Run(c, everything(), 0, "", r); !slices.EqualFunc(got.Entries, entries, entry.Same) {
			t.Errorf("Size %d: %s", size, show(got))
		}
	}
	names := []string{"dc=x", "cn=a,dc=x", "cn=b,cn=a,dc=x", "cn=a b,dc=x", "cn=a!,dc=x", `cn=a\+,dc=x`, "cn=aa,dc=x", "ou=b,dc=x", "cn=z,ou=b,dc=x", "ou=b b,dc=x"}
	slices.SortFunc(names, dn.Compare)
	for range names {
		names = append(names[1:], names[0])
		c := over([]part.Context{{Name: "ou=b,dc=x", Entries: things("cn=z,ou=b,dc=x")}, {Name: "dc=x", Entries: things(names...), Subs: []part.Cut{cut("ou=b,dc=x", 0)}}})
		sorted := slices.Clone(names)
		slices.SortFunc(sorted, dn.Compare)
		hold(t, c, asked{0, "dc=x", api.Sub, api.Never}, sorted)
	}
}

// P17.1: a request that finds nothing isn't without an answer.
func TestNothingFound(t *testing.T) {
	_, c := county()
	for _, text := range []string{"(cn=q)", "(sn=*)", "(|)"} {
		r := search.Request{Base: "ou=f,dc=x", Scope: api.Sub, Deref: api.Always, Filter: parsed(text)}
		if got := local.Run(c, everything(), 0, "", r); !same(got, local.Result{Pointers: []local.Pointer{to(1, "ou=i,ou=f,dc=x", 2, 3)}}) {
			t.Errorf("%s: %s", text, show(got))
		}
	}
}

// P17.1: as many entries as may be, at one server, of which many lead to others.
func TestFull(t *testing.T) {
	var list []api.Entry
	var names []string
	for i := range api.MaxEntries / 2 {
		name := fmt.Sprintf("cn=%03d,ou=b,dc=x", i)
		list = append(list, thing(name), alias(fmt.Sprintf("cn=%03d,ou=a,dc=x", i), name))
		names = append(names, name)
	}
	list[1] = thing("ou=a,dc=x")
	c := over([]part.Context{context("dc=x", list...)})
	hold(t, c, asked{0, "ou=a,dc=x", api.One, api.Searching}, names[1:])
	c = over([]part.Context{{Name: "dc=x", Entries: list, Subs: []part.Cut{cut("ou=b,dc=x", 1)}}})
	var pointers []local.Pointer
	for _, name := range names[1:] {
		pointers = append(pointers, to(1, name, api.Sub, api.Always))
	}
	hold(t, c, asked{0, "ou=a,dc=x", api.Sub, api.Searching}, []string{"ou=a,dc=x"}, pointers...)
}
