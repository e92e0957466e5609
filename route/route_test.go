package route_test

import (
	"fmt"
	"math"
	"slices"
	"strings"
	"testing"

	"verger/api"
	"verger/part"
	"verger/route"
)

// context makes a context without entries, which no path asks for.
func context(name string, subs ...part.Cut) part.Context {
	return part.Context{Name: name, Subs: subs}
}

func cut(name string, server int) part.Cut {
	return part.Cut{Name: name, Server: server}
}

func server(contexts ...part.Context) part.Server {
	return part.Server{Contexts: contexts}
}

// config is that of cuts of which several lie below others, over 5 servers of
// which the last one has none.
func config() part.Config {
	return part.Config{
		Servers: []part.Server{
			server(context("ou=b b,dc=x"), context(`o=c\,dc=x`)),
			server(context("ou=b,dc=x", cut("ou=d,ou=c,ou=b,dc=x", 2)), context("o=y")),
			server(context("dc=x", cut("ou=b,dc=x", 1), cut("ou=b b,dc=x", 0)), context("ou=d,ou=c,ou=b,dc=x", cut("cn=a,ou=d,ou=c,ou=b,dc=x", 3)), context("dc=x y")),
			server(context("cn=a,ou=d,ou=c,ou=b,dc=x")),
			{},
		},
		Top: []part.Cut{cut("dc=x", 2), cut("dc=x y", 2), cut(`o=c\,dc=x`, 0), cut("o=y", 1)},
	}
}

// show tells a config, or its beginning.
func show(c part.Config) string {
	return fmt.Sprintf("%.1500s", fmt.Sprintf("%+v", c))
}

// noNames are texts of no name.
func noNames() []string {
	return []string{
		"dc=", "dc", "x", ",", " ", "dc=x,", ",dc=x", "cn=a, dc=x", "sn=a,dc=x", "cn=a,,dc=x", "\xff", "cn=\x00,dc=x", `\`, `cn=\`,
		strings.Repeat("cn=a,", api.MaxRDNs) + "dc=x", "cn=" + strings.Repeat("a", api.MaxText) + ",dc=x", strings.Repeat("dc=x,", 100000),
		"cn=" + strings.Repeat("\x80", 200) + ",cn=" + strings.Repeat("\x80", 200) + ",dc=x",
	}
}

// holdHeld holds a server to having a name in that context, or in none, if that
// is below 0; so nobody is nearer, and the path ends where it begins.
func holdHeld(t *testing.T, c part.Config, server int, name string, want int) {
	t.Helper()
	at, ok := route.Held(c, server, name)
	if at != max(want, 0) || ok != (want >= 0) {
		t.Errorf("Held(%s, %d, %.300q): %d, %v, not %d", show(c), server, name, at, ok, want)
	}
	if want < 0 {
		return
	}
	holdNearer(t, c, server, name, nobody)
	holdPath(t, c, server, name, api.Success, server)
}

// nobody is no server's number, nor one that a cut of these tests names.
const nobody = -99

// holdNearer holds a server to knowing that one as nearer to a name, or nobody.
func holdNearer(t *testing.T, c part.Config, server int, name string, want int) {
	t.Helper()
	next, ok := route.Nearer(c, server, name)
	// LANGUAGE 7a: beside false there is 0.
	if ok != (want != nobody) || ok && next != want || !ok && next != 0 {
		t.Errorf("Nearer(%s, %d, %.300q): %d, %v, not %d", show(c), server, name, next, ok, want)
	}
}

// holdPath holds a path to its servers and its code.
func holdPath(t *testing.T, c part.Config, server int, name string, code int, want ...int) {
	t.Helper()
	if got, end := route.Path(c, server, name); !slices.Equal(got, want) || end != code {
		t.Errorf("Path(%s, %d, %.300q): %v, %d, not %v, %d", show(c), server, name, got, end, want, code)
	}
}

// The chapter's example.
func TestExample(t *testing.T) {
	c := part.Config{Servers: []part.Server{server(context("dc=x", cut("ou=b,dc=x", 1))), server(context("ou=b,dc=x")), {}}, Top: []part.Cut{cut("dc=x", 0)}}
	holdPath(t, c, 2, "cn=a,ou=b,dc=x", api.Success, 2, 0, 1)
	holdPath(t, c, 0, "cn=a,ou=b,dc=x", api.Success, 0, 1)
	holdPath(t, c, 1, "cn=a,ou=b,dc=x", api.Success, 1)
	holdPath(t, c, 2, "cn=a,dc=x", api.Success, 2, 0)
	holdPath(t, c, 2, "dc=y", api.NoSuchObject, 2, 0)
}

// P16.1: in which context each server has what.
func TestHeld(t *testing.T) {
	for name, want := range map[string][]int{
		"dc=x": {-1, -1, 0, -1, -1}, "DC=X": {-1, -1, 0, -1, -1}, `cn=q,dc=\58`: {-1, -1, 0, -1, -1}, "ou=bb,dc=x": {-1, -1, 0, -1, -1}, "cn=ou=b,dc=x": {-1, -1, 0, -1, -1},
		`ou=b\,dc=x,dc=x`: {-1, -1, 0, -1, -1}, "cn=a+ou=b,dc=x": {-1, -1, 0, -1, -1}, "ou=b,ou=q,dc=x": {-1, -1, 0, -1, -1},
		"ou=b,dc=x": {-1, 0, -1, -1, -1}, "CN=a,ou=B,dc=x": {-1, 0, -1, -1, -1}, "ou=c,ou=b,dc=x": {-1, 0, -1, -1, -1}, "ou=e,ou=c,ou=b,dc=x": {-1, 0, -1, -1, -1}, "ou=d,ou=b,dc=x": {-1, 0, -1, -1, -1},
		"ou=d,ou=c,ou=b,dc=x": {-1, -1, 1, -1, -1}, "cn=b,OU=D,ou=c,ou=b,dc=x": {-1, -1, 1, -1, -1},
		"cn=a,ou=d,ou=c,ou=b,dc=x": {-1, -1, -1, 0, -1}, `cn=a,cn=\41,ou=d,ou=c,ou=b,dc=x`: {-1, -1, -1, 0, -1},
		"ou=b b,dc=x": {0, -1, -1, -1, -1}, "cn=q,ou=B  B,dc=x": {0, -1, -1, -1, -1}, `o=c\,dc=x`: {1, -1, -1, -1, -1}, `cn=q,O=C\2cDC=X`: {1, -1, -1, -1, -1},
		"dc=x y": {-1, -1, 2, -1, -1}, "cn=q,dc=x   y": {-1, -1, 2, -1, -1}, "o=y": {-1, 1, -1, -1, -1}, "ou=b,dc=x,o=y": {-1, 1, -1, -1, -1},
		"": {-1, -1, -1, -1, -1}, "o=x": {-1, -1, -1, -1, -1}, "ou=b": {-1, -1, -1, -1, -1}, "dc=x,o=z": {-1, -1, -1, -1, -1}, "ou=b,dc=y": {-1, -1, -1, -1, -1},
		strings.Repeat("cn=q,", api.MaxRDNs-1) + "dc=x": {-1, -1, 0, -1, -1},
	} {
		for at, in := range want {
			holdHeld(t, config(), at, name, in)
		}
	}
}

// P16.1: of several contexts that a name is under that with the most parts
// counts, and of alike ones the first, wherever they stand; the others' Subs
// don't.
func TestHeldOfSeveral(t *testing.T) {
	high, low, other := context("dc=x", cut("ou=b,dc=x", 7)), context("OU=b,dc=x", cut("cn=q,ou=b,dc=x", 6)), context("ou=b,dc=X", cut("cn=r,ou=b,dc=x", 5))
	for _, try := range []struct {
		contexts []part.Context
		name     string
		held     int
		nearer   int
	}{
		{[]part.Context{high, low, other}, "cn=a,ou=b,dc=x", 1, nobody}, {[]part.Context{low, other, high}, "cn=a,ou=b,dc=x", 0, nobody}, {[]part.Context{other, high, low}, "cn=a,ou=b,dc=x", 0, nobody},
		{[]part.Context{low, other}, "cn=q,ou=b,dc=x", -1, 6}, {[]part.Context{other, low}, "cn=q,ou=b,dc=x", 0, nobody},
		{[]part.Context{high, low, other}, "cn=r,ou=b,dc=x", 1, nobody}, {[]part.Context{high, other, low}, "cn=r,ou=b,dc=x", -1, 5},
		{[]part.Context{high}, "cn=r,ou=b,dc=x", -1, 7}, {[]part.Context{high, high, low}, "cn=a,dc=x", 0, nobody},
		{[]part.Context{context("ou=c,ou=b,dc=x"), high, context("cn=ou\\=b\\,dc\\=x,dc=x")}, "cn=a,ou=q,dc=x", 1, nobody},
	} {
		c := part.Config{Servers: []part.Server{{}, server(try.contexts...)}}
		holdHeld(t, c, 1, try.name, try.held)
		holdNearer(t, c, 1, try.name, try.nearer)
	}
}

// P16.1: who is nearer, by each server.
func TestNearer(t *testing.T) {
	for name, want := range map[string][]int{
		"dc=x": {2, 0, nobody, 0, 0}, `CN=q,dc=\58`: {2, 0, nobody, 0, 0}, "dc=x y": {2, 0, nobody, 0, 0}, "cn=q,dc=x   Y": {2, 0, nobody, 0, 0}, "ou=bb,dc=x": {2, 0, nobody, 0, 0},
		"ou=b,dc=x": {2, nobody, 1, 0, 0}, "cn=a,OU=B,dc=x": {2, nobody, 1, 0, 0}, "ou=e,ou=c,ou=b,dc=x": {2, nobody, 1, 0, 0},
		"ou=d,ou=c,ou=b,dc=x": {2, 2, nobody, 0, 0}, `cn=b,ou=\44,ou=c,ou=b,dc=x`: {2, 2, nobody, 0, 0},
		// Of the contexts of the third one the lower one counts, which knows 3.
		"cn=a,ou=d,ou=c,ou=b,dc=x": {2, 2, 3, nobody, 0}, "cn=q,CN=A,ou=d,ou=c,ou=b,dc=x": {2, 2, 3, nobody, 0},
		"ou=b b,dc=x": {nobody, 0, 0, 0, 0}, "cn=q,ou=B  b,dc=x": {nobody, 0, 0, 0, 0},
		`o=c\,dc=x`: {nobody, 0, 0, 0, 0}, "o=y": {1, nobody, 0, 0, 0}, "dc=x,O=y": {1, nobody, 0, 0, 0},
		"": {nobody, 0, 0, 0, 0}, "dc=y": {nobody, 0, 0, 0, 0}, "ou=b": {nobody, 0, 0, 0, 0}, "dc=x,o=z": {nobody, 0, 0, 0, 0},
	} {
		for at, next := range want {
			holdNearer(t, config(), at, name, next)
		}
	}
}

// P16.1: of several Subs, or Tops, that a name is under that with the most
// parts counts, and of alike ones the first.
func TestNearerOfSeveral(t *testing.T) {
	high, low, other := cut("dc=x", 7), cut("OU=b,dc=x", 6), cut("ou=b,dc=X", -5)
	for _, try := range []struct {
		cuts   []part.Cut
		name   string
		nearer int
	}{
		{[]part.Cut{high, low, other}, "cn=a,ou=b,dc=x", 6}, {[]part.Cut{other, low, high}, "cn=a,ou=b,dc=x", -5}, {[]part.Cut{low, high, other}, "ou=b,dc=x", 6},
		{[]part.Cut{high, other, low}, "ou=b,dc=x", -5}, {[]part.Cut{low, other, high}, "ou=bb,dc=x", 7}, {[]part.Cut{cut("ou=c,ou=b,dc=x", 1), high, cut("dc=x", 2)}, "ou=b,dc=x", 7},
		{[]part.Cut{cut("dc=x", math.MaxInt), high}, "dc=x", math.MaxInt}, {[]part.Cut{cut("", 3), cut("dc=y", 4)}, "dc=x", 3}, {[]part.Cut{cut("", 3), high, cut("", 4)}, "dc=x", 7},
	} {
		// As the Top it is known to the first server alone, and as Subs to who
		// has the context.
		c := part.Config{Servers: []part.Server{server(context("o=y")), server(context("o=y"))}, Top: try.cuts}
		holdHeld(t, c, 0, try.name, -1)
		holdNearer(t, c, 0, try.name, try.nearer)
		holdNearer(t, c, 1, try.name, 0)
		for _, above := range []string{"dc=x", ""} {
			c = part.Config{Servers: []part.Server{{}, server(context(above, try.cuts...))}, Top: []part.Cut{cut("dc=x", 1)}}
			holdHeld(t, c, 1, try.name, -1)
			holdNearer(t, c, 1, try.name, try.nearer)
			holdNearer(t, c, 0, try.name, 1)
		}
	}
}

// P16.1: the first server doesn't ask by the Top what is under a context of its
// own; nor do the others ask it.
func TestContextAheadOfTop(t *testing.T) {
	c := part.Config{Servers: []part.Server{server(context("dc=x", cut("ou=b,dc=x", 1))), server(context("dc=x", cut("ou=b,dc=x", 2))), {}}, Top: []part.Cut{cut("dc=x", 2), cut("ou=b,dc=x", 2), cut("ou=c,dc=x", 2)}}
	holdNearer(t, c, 0, "cn=a,ou=b,dc=x", 1)
	holdNearer(t, c, 1, "cn=a,ou=b,dc=x", 2)
	holdHeld(t, c, 0, "ou=c,dc=x", 0)
	holdHeld(t, c, 1, "ou=c,dc=x", 0)
	holdPath(t, c, 2, "ou=c,dc=x", api.Success, 2, 0)
	holdPath(t, c, 2, "ou=b,dc=x", api.LoopDetect, 2, 0, 1)
}

// P16.1, P16.2: a Sub may be any name's, its context's own or one above, too;
// what is under it isn't held there.
func TestOddSubs(t *testing.T) {
	for _, sub := range []string{"ou=b,dc=x", "dc=x", "", "DC=X", `ou=\42,dc=x`} {
		c := part.Config{Servers: []part.Server{{}, server(context("ou=b,dc=x", cut(sub, 2))), server(context("dc=x"))}}
		for _, name := range []string{"ou=b,dc=x", "cn=a,ou=b,dc=x"} {
			holdHeld(t, c, 1, name, -1)
			holdPath(t, c, 1, name, api.Success, 1, 2)
		}
	}
	for _, sub := range []string{"dc=y", "ou=c,dc=x", "cn=b,ou=b,dc=x", "x", "dc=x,", ",", strings.Repeat("dc=x,", 1000)} {
		c := part.Config{Servers: []part.Server{{}, server(context("ou=b,dc=x", cut(sub, 2))), {}}}
		holdHeld(t, c, 1, "cn=a,ou=b,dc=x", 0)
		holdPath(t, c, 2, "cn=a,ou=b,dc=x", api.NoSuchObject, 2, 0)
	}
}

// P16.2: the paths of a config, from each server.
func TestPath(t *testing.T) {
	c := config()
	for name, want := range map[string][][]int{
		"dc=x": {{0, 2}, {1, 0, 2}, {2}, {3, 0, 2}, {4, 0, 2}}, "cn=q,DC=X": {{0, 2}, {1, 0, 2}, {2}, {3, 0, 2}, {4, 0, 2}},
		"ou=b,dc=x": {{0, 2, 1}, {1}, {2, 1}, {3, 0, 2, 1}, {4, 0, 2, 1}}, "ou=q,ou=c,ou=b,dc=x": {{0, 2, 1}, {1}, {2, 1}, {3, 0, 2, 1}, {4, 0, 2, 1}},
		"ou=b b,dc=x": {{0}, {1, 0}, {2, 0}, {3, 0}, {4, 0}}, `o=c\,dc=x`: {{0}, {1, 0}, {2, 0}, {3, 0}, {4, 0}},
		"dc=x y": {{0, 2}, {1, 0, 2}, {2}, {3, 0, 2}, {4, 0, 2}}, "o=y": {{0, 1}, {1}, {2, 0, 1}, {3, 0, 1}, {4, 0, 1}},
		"ou=d,ou=c,ou=b,dc=x":      {{0, 2}, {1, 2}, {2}, {3, 0, 2}, {4, 0, 2}},
		"CN=A,ou=d,ou=c,ou=b,dc=x": {{0, 2, 3}, {1, 2, 3}, {2, 3}, {3}, {4, 0, 2, 3}},
	} {
		for at, path := range want {
			holdPath(t, c, at, name, api.Success, path...)
		}
	}
	for _, name := range []string{"o=x", "ou=b", "dc=y", "dc=x,dc=y", "CN=A"} {
		holdPath(t, c, 0, name, api.NoSuchObject, 0)
		for at := 1; at < len(c.Servers); at++ {
			holdPath(t, c, at, name, api.NoSuchObject, at, 0)
		}
	}
}

// P16.2: the root is held nowhere; the path to it ends at the first server.
func TestRoot(t *testing.T) {
	odd := part.Config{Servers: []part.Server{server(context("")), server(context("", cut("", 2))), server(context(""), context("dc=x"))}, Top: []part.Cut{cut("", 1)}}
	for _, c := range []part.Config{config(), odd, {Servers: make([]part.Server, api.MaxServers)}} {
		for at := range c.Servers {
			holdHeld(t, c, at, "", -1)
			if at > 0 {
				holdNearer(t, c, at, "", 0)
				holdPath(t, c, at, "", api.NoSuchObject, at, 0)
			}
		}
		holdNearer(t, c, 0, "", nobody)
		holdPath(t, c, 0, "", api.NoSuchObject, 0)
	}
	// What is under the root is under contexts and cuts of its name.
	holdHeld(t, odd, 0, "o=z", 0)
	holdNearer(t, odd, 1, "o=z", 2)
	holdHeld(t, odd, 2, "o=z", 0)
	holdHeld(t, odd, 2, "dc=x", 1)
	holdPath(t, odd, 1, "o=z", api.Success, 1, 2)
}

// P16.2: a path that comes to who knows nobody, though it is under a context.
func TestPathToNobody(t *testing.T) {
	c := part.Config{Servers: []part.Server{{}, server(context("dc=x", cut("ou=b,dc=x", 0))), {}}, Top: []part.Cut{cut("dc=y", 1)}}
	holdPath(t, c, 1, "ou=b,dc=x", api.NoSuchObject, 1, 0)
	holdPath(t, c, 2, "ou=b,dc=x", api.NoSuchObject, 2, 0)
	// Others than the first ask that one, whatever the Top says.
	holdPath(t, c, 0, "dc=y", api.LoopDetect, 0, 1)
	holdPath(t, c, 1, "dc=y", api.LoopDetect, 1, 0)
	holdPath(t, c, 2, "dc=y", api.LoopDetect, 2, 0, 1)
}

// P16.2: a path that leads to a server that isn't there.
func TestPathToNoServer(t *testing.T) {
	for _, gone := range []int{-1, math.MinInt, 3, 4, 8, math.MaxInt} {
		c := part.Config{Servers: []part.Server{{}, {}, server(context("dc=x", cut("ou=b,dc=x", gone)))}, Top: []part.Cut{cut("dc=x", 2), cut("dc=y", gone)}}
		holdNearer(t, c, 2, "cn=a,ou=b,dc=x", gone)
		holdNearer(t, c, 0, "dc=y", gone)
		holdPath(t, c, 2, "cn=a,ou=b,dc=x", api.Unavailable, 2)
		holdPath(t, c, 0, "cn=a,ou=b,dc=x", api.Unavailable, 0, 2)
		holdPath(t, c, 1, "cn=a,ou=b,dc=x", api.Unavailable, 1, 0, 2)
		holdPath(t, c, 0, "dc=y", api.Unavailable, 0)
		holdPath(t, c, 2, "DC=Y", api.Unavailable, 2, 0)
		holdPath(t, c, 1, "cn=a,dc=x", api.Success, 1, 0, 2)
	}
}

// P16.2: a path that comes around, to each of its servers.
func TestPathAround(t *testing.T) {
	for back := range 5 {
		c := part.Config{Servers: []part.Server{
			{}, server(context("dc=x", cut("ou=b,dc=x", 3))), server(context("ou=b,dc=x", cut("ou=b,dc=x", back))), server(context("ou=b,dc=x", cut("ou=b,dc=x", 2))), {},
		}, Top: []part.Cut{cut("dc=x", 1)}}
		if back == 4 {
			// It goes on by the server that knows nothing.
			holdPath(t, c, 0, "cn=a,ou=b,dc=x", api.LoopDetect, 0, 1, 3, 2, 4)
			holdPath(t, c, 2, "ou=b,dc=x", api.LoopDetect, 2, 4, 0, 1, 3)
			continue
		}
		holdPath(t, c, 0, "cn=a,ou=b,dc=x", api.LoopDetect, 0, 1, 3, 2)
		holdPath(t, c, 4, "cn=a,ou=b,dc=x", api.LoopDetect, 4, 0, 1, 3, 2)
	}
	// One that names itself.
	c := part.Config{Servers: []part.Server{{}, server(context("dc=y", cut("dc=y", 1)))}, Top: []part.Cut{cut("dc=x", 0), cut("dc=y", 1)}}
	holdNearer(t, c, 0, "dc=x", 0)
	holdPath(t, c, 0, "dc=x", api.LoopDetect, 0)
	holdPath(t, c, 1, "dc=x", api.LoopDetect, 1, 0)
	holdNearer(t, c, 1, "dc=y", 1)
	holdPath(t, c, 1, "dc=y", api.LoopDetect, 1)
	holdPath(t, c, 0, "cn=a,dc=y", api.LoopDetect, 0, 1)
}

// P16.2: a path by more servers than a formed config has.
func TestLongPath(t *testing.T) {
	const count = 20000
	c := part.Config{Servers: make([]part.Server, count)}
	var all []int
	for i := range c.Servers {
		c.Servers[i] = server(context("dc=x", cut("dc=x", i+1)))
		all = append(all, i)
	}
	holdPath(t, c, 0, "dc=x", api.Unavailable, all...)
	c.Servers[count-1] = server(context("dc=x"))
	holdPath(t, c, 1, "dc=x", api.Success, all[1:]...)
	c.Servers[count-1] = server(context("dc=x", cut("dc=x", 0)))
	holdPath(t, c, 2, "dc=x", api.LoopDetect, append(all[2:count:count], 0, 1)...)
}

// P16.1, P16.2: of what is no name's text.
func TestNoName(t *testing.T) {
	c := config()
	// Not even a context of the same text, or the root's, has it.
	for _, name := range noNames() {
		c.Servers[4] = server(context(name), context(""))
		c.Top = append(c.Top, cut(name, 4), cut("", 4))
		for _, at := range []int{-1, 0, 1, 2, 3, 4, 5, math.MinInt, math.MaxInt} {
			holdHeld(t, c, at, name, -1)
			holdNearer(t, c, at, name, nobody)
			holdPath(t, c, at, name, api.InvalidDNSyntax)
		}
		holdPath(t, part.Config{}, 0, name, api.InvalidDNSyntax)
	}
}

// P16.1, P16.2: contexts and cuts whose names are no names' have nothing.
func TestNoContextNames(t *testing.T) {
	for _, odd := range noNames() {
		c := part.Config{Servers: []part.Server{server(context(odd)), server(context(odd, cut("dc=x", 2)), context("ou=b,dc=x", cut(odd, 2))), {}}, Top: []part.Cut{cut(odd, 1)}}
		for _, name := range []string{"dc=x", "cn=a,dc=x", "o=y"} {
			holdPath(t, c, 0, name, api.NoSuchObject, 0)
			holdPath(t, c, 1, name, api.NoSuchObject, 1, 0)
		}
		holdHeld(t, c, 1, "cn=a,ou=b,dc=x", 1)
	}
}

// P16.1, P16.2: at a server that isn't there.
func TestNoServer(t *testing.T) {
	for _, c := range []part.Config{config(), {}, {Top: config().Top}} {
		for _, at := range []int{-1, len(c.Servers), len(c.Servers) + 1, math.MinInt, math.MaxInt} {
			for _, name := range []string{"", "dc=x", "cn=a,ou=b,dc=x", "o=z"} {
				holdHeld(t, c, at, name, -1)
				holdNearer(t, c, at, name, nobody)
				holdPath(t, c, at, name, api.OperationsError)
			}
		}
	}
}
