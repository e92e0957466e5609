package route_test

import (
	"fmt"
	"math"
	"slices"
	"strings"
	"testing"

	"verger/api"
	"verger/part"
	"verger/route"
)

// within makes a list anew, as a part of a greater one, and tells both.
func within[T any](list []T, ahead, behind T) ([]T, []T) {
	all := slices.Concat([]T{ahead}, list, []T{behind})
	return all[1 : len(all)-1], all
}

// roomy is a config whose lists are parts of greater ones, and what shows those.
func roomy(c part.Config) (part.Config, func() string) {
	var cuts [][]part.Cut
	var contexts [][]part.Context
	keep := func(list []part.Cut) []part.Cut {
		list, all := within(list, cut("dc=ahead", 7), cut("dc=x", 8))
		cuts = append(cuts, all)
		return list
	}
	servers := slices.Clone(c.Servers)
	for i, s := range servers {
		list := slices.Clone(s.Contexts)
		for j := range list {
			list[j].Subs = keep(list[j].Subs)
		}
		list, all := within(list, context("dc=ahead"), context("dc=x"))
		servers[i].Contexts = list
		contexts = append(contexts, all)
	}
	list, all := within(servers, server(context("dc=x")), server(context("dc=x")))
	return part.Config{Servers: list, Top: keep(c.Top)}, func() string { return fmt.Sprintf("%+v %+v %+v", cuts, contexts, all) }
}

// R3: what is handed in is left as it is, its spare room too, and not read
// beyond its end.
func TestMemoryOfLists(t *testing.T) {
	c, shown := roomy(config())
	before := shown()
	for _, name := range []string{"", "dc=x", "CN=A,ou=b,dc=x", "cn=a,ou=d,ou=c,ou=b,dc=x", "o=z", "dc=ahead", "x"} {
		for at := -1; at <= len(c.Servers); at++ {
			path, code := route.Path(c, at, name)
			want, end := route.Path(config(), at, name)
			if !slices.Equal(path, want) || code != end {
				t.Errorf("Path(%d, %q): %v, %d, not %v, %d", at, name, path, code, want, end)
			}
			in, held := route.Held(c, at, name)
			if want, ok := route.Held(config(), at, name); in != want || held != ok {
				t.Errorf("Held(%d, %q): %d, %v", at, name, in, held)
			}
			next, known := route.Nearer(c, at, name)
			if want, ok := route.Nearer(config(), at, name); next != want || known != ok {
				t.Errorf("Nearer(%d, %q): %d, %v", at, name, next, known)
			}
		}
	}
	if shown() != before {
		t.Errorf("%s\nchanged to %s", before, shown())
	}
}

// R3: each path is new memory, its spare room too.
func TestMemoryOfPaths(t *testing.T) {
	c := config()
	first, _ := route.Path(c, 4, "cn=a,ou=d,ou=c,ou=b,dc=x")
	second, _ := route.Path(c, 4, "cn=a,ou=d,ou=c,ou=b,dc=x")
	for i := range first[:cap(first)] {
		first[:cap(first)][i] = 9
	}
	third, _ := route.Path(c, 4, "cn=a,ou=d,ou=c,ou=b,dc=x")
	for _, path := range [][]int{second, third} {
		if !slices.Equal(path, []int{4, 0, 2, 3}) {
			t.Errorf("written over: %v", path)
		}
	}
}

// R4: lists of no elements may be nil or empty.
func TestNoElements(t *testing.T) {
	for _, cuts := range [][]part.Cut{nil, {}} {
		for _, contexts := range [][]part.Context{nil, {}} {
			c := part.Config{Servers: []part.Server{{Contexts: contexts}, server(part.Context{Name: "dc=x", Subs: cuts}), {Contexts: contexts}}, Top: cuts}
			holdHeld(t, c, 1, "cn=a,dc=x", 0)
			holdHeld(t, c, 0, "cn=a,dc=x", -1)
			holdNearer(t, c, 0, "cn=a,dc=x", nobody)
			holdPath(t, c, 2, "cn=a,dc=x", api.NoSuchObject, 2, 0)
		}
		for _, servers := range [][]part.Server{nil, {}} {
			holdPath(t, part.Config{Servers: servers, Top: cuts}, 0, "", api.OperationsError)
		}
	}
}

// R1, R2: whatever comes, each call ends, and answers the same again.
func TestAgain(t *testing.T) {
	odd := []part.Cut{{}, cut("x", -1), cut("dc=x", math.MaxInt), cut(",", math.MinInt), cut(strings.Repeat("dc=x,", 1000), 1), cut("DC=X", 0), cut("dc=x", 2)}
	configs := []part.Config{{}, config(), {Servers: make([]part.Server, 100000)}, {Servers: make([]part.Server, 3), Top: slices.Repeat(odd, 1000)}}
	for i := range odd {
		contexts := []part.Context{context("dc=x", odd[i:]...), {}, context("o=y", odd...), context("DC=X")}
		configs = append(configs, part.Config{Servers: []part.Server{server(contexts...), {}, server(contexts[1:]...), server(slices.Repeat(contexts, 100)...)}, Top: odd[i:]})
	}
	var answers [2]string
	for round := range answers {
		var text strings.Builder
		for _, c := range configs {
			for _, name := range append(noNames(), "", "dc=x", "cn=a,ou=b,dc=x", "o=y", "O=y,DC=x") {
				for _, at := range []int{math.MinInt, -1, 0, 1, 2, 3, len(c.Servers), math.MaxInt} {
					in, held := route.Held(c, at, name)
					next, known := route.Nearer(c, at, name)
					path, code := route.Path(c, at, name)
					fmt.Fprintln(&text, in, held, next, known, path, code)
				}
			}
		}
		answers[round] = text.String()
	}
	if answers[0] != answers[1] {
		t.Error("answers differ")
	}
}
