package route_test

import (
	"math/rand"
	"slices"
	"strings"
	"testing"

	"verger/api"
	"verger/part"
	"verger/route"
)

// point is a name by its parts' numbers, the lowest first; nil is the root.
type point []int

// partTexts are the writings of each part, the normal one first. Some parts'
// texts have others' in them.
func partTexts(part int) []string {
	return [][]string{
		{"dc=x", "DC=X", `dc=\58`},
		{`cn=a\,dc=x`, `CN=A\2cdc=X`, `cn=\61\,DC\3Dx`},
		{"cn=a+ou=b", "ou=B+cn=A", `OU=\62+CN=a`},
	}[part]
}

// text is a name's text, each part in the way that one tells.
func (p point) text(way func() int) string {
	var parts []string
	for _, part := range p {
		parts = append(parts, partTexts(part)[way()])
	}
	return strings.Join(parts, ",")
}

func (p point) normal() string {
	return p.text(func() int { return 0 })
}

func (p point) written(r *rand.Rand) string {
	return p.text(func() int { return r.Intn(3) })
}

func (p point) under(other point) bool {
	return len(p) >= len(other) && slices.Equal(p[len(p)-len(other):], other)
}

// knife is a cut, and area a context, by its name's point.
type knife struct {
	name   point
	server int
}

type area struct {
	name point
	subs []knife
}

// plan is a config by points.
type plan struct {
	servers [][]area
	top     []knife
}

// config is what a plan is, its names written in any way.
func (p plan) config(r *rand.Rand) part.Config {
	cutsOf := func(knives []knife) []part.Cut {
		var cuts []part.Cut
		for _, k := range knives {
			cuts = append(cuts, cut(k.name.written(r), k.server))
		}
		return cuts
	}
	c := part.Config{Top: cutsOf(p.top)}
	for _, areas := range p.servers {
		var contexts []part.Context
		for _, a := range areas {
			contexts = append(contexts, context(a.name.written(r), cutsOf(a.subs)...))
		}
		c.Servers = append(c.Servers, server(contexts...))
	}
	return c
}

// chosen tells, by the chapter's words, which of some names, if any, counts for
// one: of those that it is under one than which none has more parts, and none
// ahead of it as many.
func chosen(names []point, p point) (int, bool) {
	for i, name := range names {
		counts := p.under(name)
		for j, other := range names {
			if p.under(other) && (len(other) > len(name) || len(other) == len(name) && j < i) {
				counts = false
			}
		}
		if counts {
			return i, true
		}
	}
	return 0, false
}

func namesOf(knives []knife) []point {
	var names []point
	for _, k := range knives {
		names = append(names, k.name)
	}
	return names
}

// held and nearer are by the words, of names that aren't the root.
func (p plan) held(server int, name point) (int, bool) {
	at, ok := p.contextOf(server, name)
	if !ok {
		return 0, false
	}
	if _, isBelow := chosen(namesOf(p.servers[server][at].subs), name); isBelow {
		return 0, false
	}
	return at, true
}

func (p plan) contextOf(server int, name point) (int, bool) {
	var names []point
	for _, a := range p.servers[server] {
		names = append(names, a.name)
	}
	return chosen(names, name)
}

func (p plan) nearer(server int, name point) int {
	knives := p.top
	if at, ok := p.contextOf(server, name); ok {
		knives = p.servers[server][at].subs
	} else if server > 0 {
		return 0
	}
	if at, ok := chosen(namesOf(knives), name); ok {
		return knives[at].server
	}
	return nobody
}

// path is by the words.
func (p plan) path(server int, name point) ([]int, int) {
	path := []int{server}
	for {
		last := path[len(path)-1]
		if _, ok := p.held(last, name); ok {
			return path, api.Success
		}
		next := p.nearer(last, name)
		if next == nobody {
			return path, api.NoSuchObject
		}
		if next < 0 || next >= len(p.servers) {
			return path, api.Unavailable
		}
		if slices.Contains(path, next) {
			return path, api.LoopDetect
		}
		path = append(path, next)
	}
}

func randomPoint(r *rand.Rand, most int) point {
	var p point
	for range 1 + r.Intn(most) {
		p = append(p, r.Intn(3)/2*(1+r.Intn(2)))
	}
	return p
}

func randomKnives(r *rand.Rand, servers int) []knife {
	var knives []knife
	for range r.Intn(4) {
		knives = append(knives, knife{name: randomPoint(r, 3), server: r.Intn(servers)})
	}
	if len(knives) > 0 && r.Intn(8) == 0 {
		knives[0].server = []int{-1, servers}[r.Intn(2)]
	}
	return knives
}

// randomPlan is one that is mostly wrong.
func randomPlan(r *rand.Rand) plan {
	p := plan{servers: make([][]area, 1+r.Intn(6))}
	for i := range p.servers {
		for range r.Intn(3) {
			p.servers[i] = append(p.servers[i], area{name: randomPoint(r, 3), subs: randomKnives(r, len(p.servers))})
		}
	}
	p.top = randomKnives(r, len(p.servers))
	return p
}

// P16.1, P16.2: many configs, mostly wrong, against a plain model.
func TestMany(t *testing.T) {
	r := rand.New(rand.NewSource(16))
	ends, long := make(map[int]int), 0
	for range 6000 {
		p := randomPlan(r)
		c := p.config(r)
		for range 4 {
			at, name := r.Intn(len(p.servers)), randomPoint(r, 4)
			in, ok := p.held(at, name)
			if !ok {
				in = -1
			}
			holdHeld(t, c, at, name.written(r), in)
			holdNearer(t, c, at, name.written(r), p.nearer(at, name))
			path, code := p.path(at, name)
			holdPath(t, c, at, name.written(r), code, path...)
			ends[code]++
			if len(path) > 2 {
				long++
			}
		}
	}
	if ends[api.Success] < 3000 || ends[api.NoSuchObject] < 3000 || ends[api.LoopDetect] < 3000 || ends[api.Unavailable] < 300 || long < 1000 {
		t.Errorf("too few: %v, %d long", ends, long)
	}
}

// tree are the entries of a tree of points, cut somewhere, and the cuts.
func tree(r *rand.Rand, servers int) ([]point, []knife) {
	var points []point
	var knives []knife
	for range 2 + r.Intn(14) {
		above := point(nil)
		if len(points) > 0 && r.Intn(6) > 0 {
			above = points[r.Intn(len(points))]
		}
		name := append(point{r.Intn(3)}, above...)
		if slices.ContainsFunc(points, func(p point) bool { return slices.Equal(p, name) }) || len(name) > 6 {
			continue
		}
		points = append(points, name)
		if len(name) == 1 || r.Intn(2) == 0 {
			knives = append(knives, knife{name: name, server: r.Intn(servers)})
		}
	}
	return points, knives
}

// entries are formed ones of these names.
func entries(points []point) []api.Entry {
	var list []api.Entry
	for _, p := range points {
		e := api.Entry{Name: p.normal()}
		e.Attrs = [][]api.Attr{
			{{Type: "dc", Values: []string{"x"}}, {Type: "objectClass", Values: []string{"top"}}},
			{{Type: "cn", Values: []string{"a,dc=x"}}, {Type: "objectClass", Values: []string{"top"}}},
			{{Type: "cn", Values: []string{"a"}}, {Type: "objectClass", Values: []string{"top"}}, {Type: "ou", Values: []string{"b"}}},
		}[p[0]]
		list = append(list, e)
	}
	return list
}

// P16.3: of what Split tells each path ends at the server of the name's
// context, or with nobody, where the name is in none; whether an entry is there
// or not.
func TestPathsOfSplit(t *testing.T) {
	r := rand.New(rand.NewSource(163))
	found, none, long := 0, 0, 0
	for range 600 {
		servers := 1 + r.Intn(api.MaxServers)
		points, knives := tree(r, servers)
		var cuts []part.Cut
		for _, k := range knives {
			cuts = append(cuts, cut(k.name.normal(), k.server))
		}
		c, err := part.Split(entries(points), cuts, servers)
		if err != api.OK {
			t.Fatal(points, cuts, err)
		}
		names := append(points, randomPoint(r, 5), nil)
		for _, p := range names {
			at, isIn := chosen(namesOf(knives), p)
			for from := range servers {
				name := p.written(r)
				path, code := route.Path(c, from, name)
				last := path[len(path)-1]
				switch {
				case isIn && (code != api.Success || last != knives[at].server):
					t.Errorf("Path(%+v, %d, %q): %v, %d, not to %d", c, from, name, path, code, knives[at].server)
				case !isIn && (code != api.NoSuchObject || last != 0):
					t.Errorf("Path(%+v, %d, %q): %v, %d, not to nobody", c, from, name, path, code)
				case isIn:
					in, ok := route.Held(c, last, name)
					if !ok || c.Servers[last].Contexts[in].Name != cuts[at].Name {
						t.Errorf("Held(%+v, %d, %q): %d, %v, not %v", c, last, name, in, ok, cuts[at])
					}
					found++
				default:
					none++
				}
				if len(path) > 3 {
					long++
				}
			}
		}
	}
	if found < 8000 || none < 2000 || long < 500 {
		t.Errorf("%d were found, %d weren't, %d were long", found, none, long)
	}
}
