package local_test

import (
	"cmp"
	"fmt"
	"math/rand"
	"slices"
	"strings"
	"testing"

	"verger/api"
	"verger/dn"
	"verger/entry"
	"verger/filter"
	"verger/local"
	"verger/part"
	"verger/policy"
	"verger/resolve"
	"verger/route"
	"verger/search"
	"verger/view"
)

// model is a server's search by the chapter's words.
type model struct {
	c       part.Config
	rules   []policy.Rule
	server  int
	subject string
	r       search.Request

	found    []api.Entry
	pointers []local.Pointer
	// hidden is how much of what was looked at isn't seen.
	hidden int
}

// seen is the view of the context in which a name is held, if it is in one.
func (m *model) seen(name string) ([]api.Entry, bool) {
	at, ok := route.Held(m.c, m.server, name)
	if !ok {
		return nil, false
	}
	all := m.c.Servers[m.server].Contexts[at].Entries
	list := view.Of(all, m.rules, m.subject)
	m.hidden += len(all) - len(list)
	return list, true
}

// end tells what becomes of a name, and the code; came are those ahead of it.
func (m *model) end(name string, follow bool, came []string) (string, int) {
	if slices.Contains(came, name) || len(came) > 16 {
		return name, api.AliasDereferencing
	}
	none := api.NoSuchObject
	if len(came) > 0 {
		none = api.AliasProblem
	}
	list, held := m.seen(name)
	if !held {
		_, known := route.Nearer(m.c, m.server, name)
		switch {
		case known:
			return name, api.Referral
		case name == "" && m.server == 0:
			return name, api.Success
		}
		return name, none
	}
	if follow {
		next, more, code := resolve.Step(list, name)
		if code != api.Success {
			return name, code
		}
		if more {
			return m.end(next, true, append(came, name))
		}
	}
	if slices.Contains(namesOf(list), name) {
		return name, api.Success
	}
	return name, none
}

func (m *model) point(name string, scope, deref int) {
	if server, ok := route.Nearer(m.c, m.server, name); ok {
		m.pointers = append(m.pointers, to(server, name, scope, deref))
	}
}

func inScope(name, base string, scope int) bool {
	deep := dn.Depth(name) - dn.Depth(base)
	return dn.Under(name, base) && (scope == api.Sub || deep == scope)
}

// lower is the scope of what comes of a place.
func lower(scope int) int {
	if scope == api.One {
		return api.Base
	}
	return scope
}

// take takes a place, and tells those that come of it.
func (m *model) take(name string, scope int) []asked {
	var further []asked
	cuts := m.c.Top
	list, held := m.seen(name)
	switch {
	case held:
		at, _ := route.Held(m.c, m.server, name)
		cuts = m.c.Servers[m.server].Contexts[at].Subs
	case name != "" || m.server != 0:
		m.point(name, scope, m.r.Deref)
		return nil
	}
	for _, e := range list {
		if !inScope(e.Name, name, scope) {
			continue
		}
		if _, ok := entry.Alias(e); !ok || m.r.Deref&1 == 0 || e.Name == name {
			m.found = append(m.found, e)
			continue
		}
		end, code := m.end(e.Name, true, nil)
		switch code {
		case api.Success:
			further = append(further, asked{base: end, scope: lower(scope)})
		case api.Referral:
			m.point(end, lower(scope), m.r.Deref|2)
		}
	}
	for _, cut := range cuts {
		if scope != api.Base && inScope(cut.Name, name, scope) {
			further = append(further, asked{base: cut.Name, scope: lower(scope)})
		}
	}
	return further
}

// run is what Run is to answer to a request that is formed, and how many places
// it has.
func (m *model) run() (local.Result, int) {
	normal, _ := dn.Normal(m.r.Base)
	end, code := m.end(normal, m.r.Deref >= 2, nil)
	if code == api.Referral {
		m.point(end, m.r.Scope, m.r.Deref)
	}
	if code != api.Success {
		return local.Result{Code: code, Pointers: m.pointers}, 0
	}
	places := []asked{{base: end, scope: m.r.Scope}}
	for i := 0; i < len(places); i++ {
		for _, p := range m.take(places[i].base, places[i].scope) {
			if !slices.Contains(places, p) {
				places = append(places, p)
			}
		}
	}
	result := local.Result{}
	for _, e := range m.found {
		if filter.Eval(m.r.Filter, e.Attrs) == 1 && !slices.Contains(namesOf(result.Entries), e.Name) {
			result.Entries = append(result.Entries, search.Select(e, m.r))
		}
	}
	slices.SortFunc(result.Entries, func(a, b api.Entry) int { return dn.Compare(a.Name, b.Name) })
	for _, p := range m.pointers {
		if !slices.Contains(result.Pointers, p) {
			result.Pointers = append(result.Pointers, p)
		}
	}
	slices.SortFunc(result.Pointers, func(a, b local.Pointer) int {
		if a.Server != b.Server {
			return cmp.Compare(a.Server, b.Server)
		}
		if order := dn.Compare(a.Name, b.Name); order != 0 {
			return order
		}
		return cmp.Compare(a.Scope*4+a.Deref, b.Scope*4+b.Deref)
	})
	return result, len(places)
}

// manage is what Manage is to answer to a request that is formed.
func (m *model) manage() local.Result {
	var all, list []api.Entry
	own := m.c.Servers[m.server].Contexts
	for _, context := range own {
		all = append(all, view.Of(context.Entries, m.rules, m.subject)...)
		for _, sub := range context.Subs {
			if slices.ContainsFunc(own, func(c part.Context) bool { return c.Name == sub.Name }) {
				continue
			}
			// A formed entry of that name that has such attributes, too, is seen
			// as layer 12 says.
			e, _ := entry.Make(sub.Name, append(thing(sub.Name, attr("ref", "r")).Attrs, attr("objectClass", "q")))
			e, ok := view.One(e, m.rules, m.subject)
			if !ok {
				continue
			}
			told := below(sub.Name, fmt.Sprint("ldap://", sub.Server))
			told.Attrs = slices.DeleteFunc(told.Attrs, func(a api.Attr) bool { return len(entry.Values(e, a.Type)) == 0 })
			all = append(all, told)
		}
	}
	for _, e := range all {
		if !slices.Contains(namesOf(list), e.Name) {
			list = append(list, e)
		}
	}
	r := m.r
	r.Deref = api.Never
	got := search.Run(list, r)
	return local.Result{Code: got.Code, Entries: got.Entries}
}

// pick picks one of a list.
func pick[T any](r *rand.Rand, list ...T) T {
	return list[r.Intn(len(list))]
}

// randomName is one of few, so that they are often alike, or under one another.
func randomName(r *rand.Rand) string {
	return randomBelow(r, pick(r, "", "", "dc=x", "cn=a,dc=x"))
}

// randomBelow is one that is mostly below that name.
func randomBelow(r *rand.Rand, name string) string {
	if r.Intn(8) == 0 {
		return randomName(r)
	}
	for i := range 2 {
		if dn.Depth(name) < 5 && (i == 0 || r.Intn(3) == 0) {
			name, _ = dn.Join(pick(r, "dc=x", "cn=a", "cn=b", `cn=a\,dc=x`, "cn=a+ou=b"), name)
		}
	}
	return name
}

// written is a name as it may be written.
func written(r *rand.Rand, name string) string {
	return pick(r, name, strings.ToUpper(name), strings.ReplaceAll(name, "c", "C"))
}

// randomCuts are mostly below that name.
func randomCuts(r *rand.Rand, servers int, name string) []part.Cut {
	var cuts []part.Cut
	for range r.Intn(4) {
		cuts = append(cuts, cut(randomBelow(r, name), r.Intn(servers)))
	}
	if len(cuts) > 0 && r.Intn(8) == 0 {
		cuts[0].Server = pick(r, -1, servers, 99)
	}
	return cuts
}

// randomConfig is formed, but mostly wrong; beside it are the names in it.
func randomConfig(r *rand.Rand) (part.Config, []string) {
	c := part.Config{Servers: make([]part.Server, 1+r.Intn(4))}
	var names []string
	for i := range c.Servers {
		for range r.Intn(4) {
			context := part.Context{Name: randomName(r)}
			if len(names) > 0 && r.Intn(2) == 0 {
				context.Name = pick(r, names...)
			}
			names = append(names, context.Name)
			for range r.Intn(8) {
				// Mails make alike names' entries unlike.
				name, mail := randomBelow(r, context.Name), attr("mail", fmt.Sprint(len(names)%4))
				if r.Intn(6) == 0 {
					name = context.Name
				}
				names = append(names, name)
				context.Entries = append(context.Entries, thing(name, mail))
			}
			context.Subs = randomCuts(r, len(c.Servers), context.Name)
			c.Servers[i].Contexts = append(c.Servers[i].Contexts, context)
		}
	}
	c.Top = randomCuts(r, len(c.Servers), "")
	names = append(names, "dc=x")
	addAliases(r, c, names)
	return c, names
}

// namesAt are the names of a server's contexts and entries.
func namesAt(server part.Server) []string {
	var names []string
	for _, context := range server.Contexts {
		names = append(append(names, context.Name), namesOf(context.Entries)...)
	}
	return names
}

// addAliases makes some of a config's entries aliases, mostly to what is there.
func addAliases(r *rand.Rand, c part.Config, names []string) {
	for _, server := range c.Servers {
		for _, context := range server.Contexts {
			for i, e := range context.Entries {
				if r.Intn(5) < 2 {
					target := pick(r, randomName(r), pick(r, names...))
					context.Entries[i], _ = entry.Make(e.Name, append(e.Attrs, attr("objectClass", "alias"), attr("aliasedObjectName", written(r, target))))
				}
			}
		}
	}
}

// randomRules mostly let all be read.
func randomRules(r *rand.Rand, names []string) []policy.Rule {
	var rules []policy.Rule
	for range r.Intn(4) {
		rules = append(rules, policy.Rule{Who: pick(r, "*", "*", "-", "=", "@dc=x"), Target: pick(r, names...), Attr: pick(r, "", "", "", "", "objectClass", "mail", "ref", "aliasedObjectName"), Rights: pick(r, 1, 3, 63, 62), Allow: r.Intn(4) == 0})
	}
	return everything(rules...)
}

func randomRequest(r *rand.Rand, names []string) search.Request {
	ask := search.Request{
		Base: written(r, randomName(r)), Scope: min(r.Intn(4), api.Sub), Deref: r.Intn(4), Filter: parsed(pick(r, "(objectClass=*)", "(&)", "(mail>=2)", "(!(mail=1))")),
		Attrs: pick(r, nil, []string{"MAIL", "ref"}), TypesOnly: r.Intn(4) == 0, Size: max(0, r.Intn(6)-2),
	}
	if r.Intn(2) == 0 {
		ask.Base = pick(r, names...)
	}
	if r.Intn(8) == 0 {
		ask.Base = ""
	}
	return ask
}

// P17.1, P17.2: many configs, mostly wrong, against a plain model.
func TestMany(t *testing.T) {
	r := rand.New(rand.NewSource(17))
	codes, managed := map[int]int{}, map[int]int{}
	further, pointed, hidden := 0, 0, 0
	for range 800 {
		c, names := randomConfig(r)
		rules := randomRules(r, names)
		if !part.Formed(c) || !policy.Formed(rules) {
			t.Fatal(c, rules)
		}
		for range 4 {
			m := model{c: c, rules: rules, server: r.Intn(len(c.Servers)), subject: pick(r, "", "dc=x", pick(r, names...)), r: randomRequest(r, names)}
			// Mostly it asks for what lies there.
			if own := namesAt(c.Servers[m.server]); len(own) > 0 && r.Intn(6) > 0 {
				m.r.Base = written(r, pick(r, own...))
			}
			want, places := m.run()
			got := local.Run(c, rules, m.server, m.subject, m.r)
			if !same(got, want) {
				t.Errorf("%+v\n%+v\n%d, %q, %+v: %s, not %s", c, rules, m.server, m.subject, m.r, show(got), show(want))
			}
			if got, want := local.Manage(c, rules, m.server, m.subject, m.r), m.manage(); !same(got, want) {
				t.Errorf("%+v\n%+v\n%d, %q, %+v: %s, not %s", c, rules, m.server, m.subject, m.r, show(got), show(want))
			} else {
				managed[got.Code]++
			}
			codes[got.Code]++
			if places > 1 {
				further++
			}
			if got.Code == api.Success && len(got.Pointers) > 1 {
				pointed++
			}
			if got.Code == api.Success && m.hidden > 0 {
				hidden++
			}
			if t.Failed() {
				return
			}
		}
	}
	for _, code := range []int{api.Success, api.Referral, api.NoSuchObject, api.AliasProblem, api.AliasDereferencing} {
		if codes[code] < 30 {
			t.Errorf("code %d came %d times", code, codes[code])
		}
	}
	for _, code := range []int{api.Success, api.NoSuchObject, api.SizeLimitExceeded} {
		if managed[code] < 100 {
			t.Errorf("Manage: code %d came %d times", code, managed[code])
		}
	}
	if further < 200 || pointed < 100 || hidden < 30 {
		t.Errorf("%d had further places, %d more than one pointer, %d something hidden", further, pointed, hidden)
	}
}

// randomTree is one cut over servers, and the names in it.
func randomTree(r *rand.Rand) ([]api.Entry, part.Config, []string) {
	names := []string{"dc=x"}
	for range 4 + r.Intn(12) {
		name, _ := dn.Join(pick(r, "dc=x", "cn=a", "cn=b", "cn=a+ou=b"), pick(r, append(names, "")...))
		if dn.Depth(name) < 6 && !slices.Contains(names, name) {
			names = append(names, name)
		}
	}
	var list []api.Entry
	var cuts []part.Cut
	servers := 1 + r.Intn(5)
	for _, name := range names {
		isAbove := slices.ContainsFunc(names, func(other string) bool { return other != name && dn.Under(other, name) })
		parent, _ := dn.Parent(name)
		switch {
		case parent == "" || r.Intn(3) == 0:
			cuts = append(cuts, cut(name, r.Intn(servers)))
			list = append(list, thing(name))
		case !isAbove && r.Intn(3) > 0:
			list = append(list, alias(name, pick(r, names...)))
		default:
			list = append(list, thing(name))
		}
	}
	c, err := part.Split(list, cuts, servers)
	if err != api.OK {
		panic(err)
	}
	return list, c, names
}

// collected are the names of all that comes of a request, first at a server,
// then where its pointers lead, on and on.
func collected(c part.Config, rules []policy.Rule, server int, subject string, ask search.Request) []string {
	todo := []local.Pointer{to(server, ask.Base, ask.Scope, ask.Deref)}
	var names []string
	for i := 0; i < len(todo); i++ {
		r := ask
		r.Base, r.Scope, r.Deref = todo[i].Name, todo[i].Scope, todo[i].Deref
		got := local.Run(c, rules, todo[i].Server, subject, r)
		for _, name := range namesOf(got.Entries) {
			if !slices.Contains(names, name) {
				names = append(names, name)
			}
		}
		for _, p := range got.Pointers {
			if !slices.Contains(todo, p) {
				todo = append(todo, p)
			}
		}
	}
	slices.SortFunc(names, dn.Compare)
	return names
}

// P1, P2: of a tree that is cut, whichever server is asked, all that is found in
// the whole tree's view is found by following the pointers, and nothing else.
func TestWhole(t *testing.T) {
	r := rand.New(rand.NewSource(171))
	several := 0
	for range 400 {
		list, c, names := randomTree(r)
		rules := randomRules(r, names)
		for range 4 {
			ask, subject := randomRequest(r, names), pick(r, "", "dc=x")
			ask.Size = 0
			whole := search.Run(view.Of(list, rules, subject), ask)
			if whole.Code != api.Success {
				continue
			}
			if len(whole.Entries) > 2 {
				several++
			}
			for server := range c.Servers {
				if got := collected(c, rules, server, subject, ask); !slices.Equal(got, namesOf(whole.Entries)) {
					t.Fatalf("%+v\n%+v\n%d, %q, %+v: %q, not %q", c, rules, server, subject, ask, got, namesOf(whole.Entries))
				}
			}
		}
	}
	if several < 100 {
		t.Errorf("%d found more than two", several)
	}
}
