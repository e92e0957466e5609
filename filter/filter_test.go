package filter_test

import (
	"fmt"
	"math"
	"math/rand"
	"slices"
	"strconv"
	"strings"
	"testing"

	"verger/api"
	"verger/filter"
)

// The kinds, by the chapter's numbers.
const (
	kindAnd        = 0
	kindOr         = 1
	kindNot        = 2
	kindEqual      = 3
	kindSubstrings = 4
	kindAtLeast    = 5
	kindAtMost     = 6
	kindPresent    = 7
	kindNear       = 8
)

func and(parts ...filter.Filter) filter.Filter {
	return filter.Filter{Kind: kindAnd, Parts: parts}
}

func or(parts ...filter.Filter) filter.Filter {
	return filter.Filter{Kind: kindOr, Parts: parts}
}

func not(part filter.Filter) filter.Filter {
	return filter.Filter{Kind: kindNot, Parts: []filter.Filter{part}}
}

func equal(attr, value string) filter.Filter {
	return filter.Filter{Kind: kindEqual, Attr: attr, Value: value}
}

func atLeast(attr, value string) filter.Filter {
	return filter.Filter{Kind: kindAtLeast, Attr: attr, Value: value}
}

func atMost(attr, value string) filter.Filter {
	return filter.Filter{Kind: kindAtMost, Attr: attr, Value: value}
}

func near(attr, value string) filter.Filter {
	return filter.Filter{Kind: kindNear, Attr: attr, Value: value}
}

func present(attr string) filter.Filter {
	return filter.Filter{Kind: kindPresent, Attr: attr}
}

func substrings(attr, first, last string, any ...string) filter.Filter {
	return filter.Filter{Kind: kindSubstrings, Attr: attr, First: first, Any: any, Last: last}
}

// show tells a filter, or the beginning of what it has.
func show(f filter.Filter) string {
	return fmt.Sprintf("%.300s", strconv.Quote(fmt.Sprintf("%+v", f)))
}

// chain is a filter that is nested so deep.
func chain(depth int) filter.Filter {
	f := equal("cn", "a")
	for range depth - 1 {
		f = not(f)
	}
	return f
}

// wide is a filter in which so many stand.
func wide(count int) filter.Filter {
	return and(slices.Repeat([]filter.Filter{equal("cn", "a")}, count-1)...)
}

// endless is a filter that stands in itself.
func endless(parts int) filter.Filter {
	f := and(make([]filter.Filter, parts)...)
	for i := range f.Parts {
		f.Parts[i] = f
	}
	return f
}

// formed are formed filters with how many stand in each.
func formed() []struct {
	f     filter.Filter
	nodes int
} {
	full := strings.Repeat("a", api.MaxValue)
	return []struct {
		f     filter.Filter
		nodes int
	}{
		{filter.Filter{}, 1},
		{filter.Filter{Kind: kindAnd, Any: []string{}, Parts: []filter.Filter{}}, 1},
		{and(), 1}, {or(), 1}, {not(and()), 2}, {not(or()), 2},
		{and(equal("cn", "a")), 2}, {or(present("cn")), 2}, {and(and(), or(), not(and())), 5},
		{or(equal("cn", "a"), not(and(equal("x", "b"), near("y", "c"))), substrings("z", "a", "")), 7},
		{equal("cn", "a"), 1}, {equal("sn", "x"), 1}, {equal("C", "="), 1}, {equal("z9-", "*"), 1}, {equal("a-", "\x00"), 1},
		{equal("A"+strings.Repeat("9", 39), full), 1}, {equal(strings.Repeat("Z", 40), "\xff"), 1},
		{filter.Filter{Kind: kindEqual, Attr: "cn", Value: "a", Any: []string{}, Parts: []filter.Filter{}}, 1},
		{atLeast("cn", full), 1}, {atMost("a0", " "), 1}, {near("a-z", strings.Repeat("\x00", api.MaxValue)), 1},
		{present("cn"), 1}, {present("x"), 1}, {present("x" + strings.Repeat("-", 39)), 1},
		{substrings("cn", "a", ""), 1}, {substrings("cn", "", "a"), 1}, {substrings("cn", "", "", "a"), 1},
		{substrings("cn", "a", "b"), 1}, {substrings("cn", "a", "", "b"), 1}, {substrings("cn", "", "a", "b"), 1},
		{substrings("cn", "a", "b", "c", "c"), 1}, {substrings("x", full, full, full, full), 1},
		{substrings("cn", "*", "(", ")", "\x00"), 1}, {substrings("cn", "", "", slices.Repeat([]string{"a"}, 100000)...), 1},
		{chain(2), 2}, {chain(api.MaxNest - 1), api.MaxNest - 1}, {chain(api.MaxNest), api.MaxNest},
		{wide(2), 2}, {wide(api.MaxFilter - 1), api.MaxFilter - 1}, {wide(api.MaxFilter), api.MaxFilter},
		{and(chain(api.MaxNest-1), chain(api.MaxNest-1)), 2*api.MaxNest - 1},
		{or(chain(api.MaxNest-1), chain(api.MaxNest-1), and()), 2 * api.MaxNest},
	}
}

// unformed are filters that aren't formed; P7.1's calls, and Eval, have to end
// of them too.
func unformed() []filter.Filter {
	over := strings.Repeat("a", api.MaxValue+1)
	list := []filter.Filter{
		{Kind: -1}, {Kind: 9}, {Kind: 10}, {Kind: math.MinInt}, {Kind: math.MaxInt}, {Kind: 256}, {Kind: 1 << 32},
		{Kind: -1, Attr: "cn"}, {Kind: 9, Attr: "cn", Value: "a"},
		{Kind: kindNot}, {Kind: kindNot, Parts: []filter.Filter{}},
		{Kind: kindNot, Parts: []filter.Filter{and(), and()}}, {Kind: kindNot, Parts: []filter.Filter{and(), and(), and()}},
		{Kind: kindEqual}, {Kind: kindSubstrings}, {Kind: kindAtLeast}, {Kind: kindAtMost}, {Kind: kindPresent}, {Kind: kindNear},
		substrings("cn", "", ""), {Kind: kindSubstrings, Attr: "cn", Any: []string{}}, substrings("", "a", ""),
		substrings("cn", "", "", ""), substrings("cn", "a", "b", ""), substrings("cn", "", "", "a", "", "b"),
		substrings("cn", over, ""), substrings("cn", "", over), substrings("cn", "", "", over), substrings("cn", "a", "b", "c", over),
		equal("cn", ""), equal("cn", over), atLeast("cn", ""), atLeast("cn", over), atMost("cn", ""), atMost("cn", over),
		near("cn", ""), near("cn", over), equal("", "a"),
		chain(api.MaxNest + 1), chain(api.MaxNest + 2), chain(1 << 16), and(chain(api.MaxNest)), and(and(), chain(api.MaxNest)),
		wide(api.MaxFilter + 1), wide(1 << 16), and(chain(api.MaxNest-1), chain(api.MaxNest-1), and(), and()),
		endless(1), endless(2), endless(1000), not(endless(1)),
	}
	for _, attr := range []string{"", "1", "-", "9a", "-a", " cn", "cn ", "c n", "c_n", "cn;x", "cn=", "c.n", "2.5.4.3", "cn\x00", "\xe9", "cné", "\u212a", "c@", "c[", "c`", "c{", "c/", "c:", strings.Repeat("a", 41), strings.Repeat("a", 1<<20)} {
		list = append(list, equal(attr, "a"), atLeast(attr, "a"), atMost(attr, "a"), near(attr, "a"), present(attr), substrings(attr, "a", ""))
	}
	return append(list, withMore()...)
}

// withMore are filters of each kind that have something that doesn't belong to
// it.
func withMore() []filter.Filter {
	var list []filter.Filter
	more := func(f filter.Filter, fields string) {
		for _, c := range fields {
			g := f
			switch c {
			case 'a':
				g.Attr = "cn"
			case 'v':
				g.Value = "a"
			case 'f':
				g.First = "a"
			case 'l':
				g.Last = "a"
			case 'y':
				g.Any = []string{"a"}
			case 'e':
				g.Any = []string{""}
			case 'p':
				g.Parts = []filter.Filter{and()}
			}
			list = append(list, g)
		}
	}
	more(and(), "avflye")
	more(or(present("cn")), "avflye")
	more(not(present("cn")), "avflye")
	more(equal("cn", "a"), "flyep")
	more(substrings("cn", "a", "b", "c"), "vp")
	more(atLeast("cn", "a"), "flyep")
	more(atMost("cn", "a"), "flyep")
	more(present("cn"), "vflyep")
	more(near("cn", "a"), "flyep")
	return list
}

// P7.1: what is formed, and what isn't, by itself and as a Part.
func TestFormed(t *testing.T) {
	for _, c := range formed() {
		if !filter.Formed(c.f) {
			t.Errorf("Formed(%s): false", show(c.f))
		}
	}
	for i, f := range unformed() {
		if filter.Formed(f) {
			t.Errorf("Formed of unformed %d: true", i)
		}
		for _, g := range []filter.Filter{not(f), and(f), or(present("cn"), f), and(f, present("cn")), not(not(f))} {
			if filter.Formed(g) {
				t.Errorf("Formed with unformed %d within: true", i)
			}
		}
	}
}

// P7.1: how many stand in a filter, in one that isn't formed too.
func TestNodes(t *testing.T) {
	for _, c := range formed() {
		if got := filter.Nodes(c.f); got != c.nodes {
			t.Errorf("Nodes(%s): %d, not %d", show(c.f), got, c.nodes)
		}
	}
	many := api.MaxFilter + 1
	inner := equal("", "")
	inner.Parts = []filter.Filter{{Kind: -5}, not(and())}
	for i, c := range []struct {
		f     filter.Filter
		nodes int
	}{
		{filter.Filter{Kind: kindNot}, 1}, {filter.Filter{Kind: 77}, 1}, {inner, 4}, {and(inner, inner), 9},
		{wide(many), many}, {wide(many + 1), many}, {wide(1 << 16), many},
		{chain(api.MaxFilter - 1), api.MaxFilter - 1}, {chain(api.MaxFilter), api.MaxFilter}, {chain(many), many}, {chain(many + 1), many}, {chain(1 << 16), many},
		{and(wide(20), wide(19)), api.MaxFilter}, {and(wide(20), wide(20)), many}, {and(wide(20), wide(20), and()), many},
		{and(and(), wide(39)), many}, {and(wide(39), and()), many}, {and(wide(38), and()), api.MaxFilter}, {and(and(), wide(38)), api.MaxFilter},
		{endless(1), many}, {endless(2), many}, {endless(1000), many}, {and(and(), endless(3)), many},
	} {
		if got := filter.Nodes(c.f); got != c.nodes {
			t.Errorf("Nodes %d: %d, not %d", i, got, c.nodes)
		}
	}
}

// P7.1: Same is of all that a filter has, formed or not; a list of none is one
// of none (R4).
func TestSame(t *testing.T) {
	list := []filter.Filter{
		{}, {Kind: 1}, {Kind: -1}, {Attr: "a"}, {Attr: "A"}, {Value: "a"}, {First: "a"}, {Last: "a"}, {Attr: "a", Value: "a"}, {First: "a", Last: "a"},
		{Any: []string{""}}, {Any: []string{"", ""}}, {Any: []string{"a"}}, {Any: []string{"a", "b"}}, {Any: []string{"b", "a"}}, {Any: []string{"ab"}},
		{Parts: []filter.Filter{{}}}, {Parts: []filter.Filter{{}, {}}}, {Parts: []filter.Filter{{Kind: 1}, {}}}, {Parts: []filter.Filter{{}, {Kind: 1}}},
		not(equal("cn", "a")), not(equal("cn", "b")), not(equal("CN", "a")), not(not(equal("cn", "a"))),
		not(substrings("cn", "", "", "a")), not(substrings("cn", "", "", "a", "a")), chain(1 << 16), not(chain(1 << 16)), wide(1000), wide(1001),
	}
	others := again(and(list...)).Parts
	for i, a := range list {
		for j, b := range others {
			if got := filter.Same(a, b); got != (i == j) {
				t.Errorf("Same of %d and %d: %v", i, j, got)
			}
		}
	}
	empty := filter.Filter{Kind: kindOr, Any: []string{}, Parts: []filter.Filter{}}
	if !filter.Same(empty, or()) || !filter.Same(or(), empty) || !filter.Same(not(empty), not(or())) || !filter.Same(empty, empty) {
		t.Error("lists of none aren't alike")
	}
}

// again is the same filter in other memory.
func again(f filter.Filter) filter.Filter {
	f.Any = append(make([]string, 0, len(f.Any)+3), f.Any...)
	parts := make([]filter.Filter, 0, len(f.Parts)+1)
	for _, part := range f.Parts {
		parts = append(parts, again(part))
	}
	f.Parts = parts
	return f
}

// attrs that random filters have, the last of them of no type.
var someAttrs = []string{"cn", "CN", "description", "userPassword", "serialNumber", "position", "member", "sn"}

// someValues are what random filters look for; some have no normal form.
var someValues = []string{"a", "A", "ab", "b a", " a", "a ", "B  A", "aab", "7", "10", "-3", "07", "i", "3+4i", "5", "-5i", "cn=a", "CN=A", "cn=a,dc=b", `cn=\61`, " ", "\x00", "\xff", "*", "(", ")", `\`, "\x7f", "aba"}

// random makes a formed filter of at most left + 1 levels.
func random(r *rand.Rand, left int) filter.Filter {
	kind := kindEqual + r.Intn(6)
	if left > 0 && r.Intn(3) > 0 {
		kind = r.Intn(3)
	}
	attr, value := someAttrs[r.Intn(len(someAttrs))], someValues[r.Intn(len(someValues))]
	switch kind {
	case kindAnd, kindOr:
		f := filter.Filter{Kind: kind}
		for range r.Intn(4) {
			f.Parts = append(f.Parts, random(r, left-1))
		}
		return f
	case kindNot:
		return not(random(r, left-1))
	case kindSubstrings:
		return randomPieces(r, attr)
	case kindPresent:
		return present(attr)
	}
	return filter.Filter{Kind: kind, Attr: attr, Value: value}
}

func randomPieces(r *rand.Rand, attr string) filter.Filter {
	pieces := []string{"a", "b", "A", "ab", " ", "*", "\xff", "aa", "ba", "cn", "1"}
	piece := func() string { return pieces[r.Intn(len(pieces))] }
	f := substrings(attr, "", "")
	for f.First == "" && f.Last == "" && len(f.Any) == 0 {
		if r.Intn(3) == 0 {
			f.First = piece()
		}
		if r.Intn(3) == 0 {
			f.Last = piece()
		}
		for range r.Intn(3) {
			f.Any = append(f.Any, piece())
		}
	}
	return f
}

// P7.1: random filters are formed, as long as they aren't too many; their
// Nodes are as many as their brackets.
func TestManyFormed(t *testing.T) {
	r := rand.New(rand.NewSource(7))
	over := 0
	for range 20000 {
		f := random(r, 6)
		nodes := nodesOf(f)
		if got := filter.Nodes(f); got != min(nodes, api.MaxFilter+1) {
			t.Errorf("Nodes(%s): %d, not %d", show(f), got, nodes)
		}
		if filter.Formed(f) != (nodes <= api.MaxFilter) {
			t.Errorf("Formed(%s): %v", show(f), nodes > api.MaxFilter)
		}
		if !filter.Same(f, again(f)) || filter.Same(f, not(f)) {
			t.Errorf("Same(%s)", show(f))
		}
		if nodes > api.MaxFilter {
			over++
		}
	}
	if over < 50 {
		t.Errorf("just %d were too many", over)
	}
}

func nodesOf(f filter.Filter) int {
	n := 1
	for _, part := range f.Parts {
		n += nodesOf(part)
	}
	return n
}

// R1, R2: whatever comes, each call ends, and answers the same again.
func TestAgain(t *testing.T) {
	attrs := []api.Attr{{Type: "cn", Values: []string{"a", "", "\x00"}}, {Type: "", Values: nil}, {Type: "member", Values: []string{"x"}}}
	texts := []string{"", "(", ")", "(&", "(cn=a)", "(!)", `(cn=\`, `(cn=\a)`, strings.Repeat("(!", 8000), strings.Repeat("(", api.MaxPDU), strings.Repeat("(&", 1<<20)}
	list := unformed()
	for _, c := range formed() {
		list = append(list, c.f)
	}
	var first []string
	for range 2 {
		var now []string
		for _, f := range list {
			text, err := filter.Print(f)
			now = append(now, fmt.Sprint(filter.Formed(f), filter.Nodes(f), text, err, filter.Eval(f, attrs), filter.Eval(f, nil)))
		}
		for _, s := range texts {
			f, err := filter.Parse(s)
			now = append(now, fmt.Sprint(f, err))
		}
		if first != nil && !slices.Equal(first, now) {
			t.Error("answers differ")
		}
		first = now
	}
}
