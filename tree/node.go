package tree

import (
	"slices"
	"strings"

	"verger/api"
	"verger/dn"
	"verger/entry"
	"verger/rdn"
)

// separator stands between the parts of a name's text.
const separator = ','

// node is an entry, with its name's path: the texts of the parts, the highest
// first. By paths names are ordered, and under one another; so a name is read
// just once.
type node struct {
	entry api.Entry
	path  []string
}

// pathOf tells the path of a normal text.
func pathOf(name string) []string {
	// Split makes one piece of it, and the root has no part.
	if name == "" {
		return nil
	}
	path := rdn.Split(name, separator)
	slices.Reverse(path)
	return path
}

// nodeOf tells the node of a formed entry, whose memory it takes over.
func nodeOf(e api.Entry) node {
	return node{entry: e, path: pathOf(e.Name)}
}

// copied makes new memory of an entry, of its texts' bytes too.
func copied(e api.Entry) api.Entry {
	attrs := make([]api.Attr, 0, len(e.Attrs))
	for _, attr := range e.Attrs {
		values := make([]string, 0, len(attr.Values))
		for _, value := range attr.Values {
			values = append(values, strings.Clone(value))
		}
		attrs = append(attrs, api.Attr{Type: strings.Clone(attr.Type), Values: values})
	}
	return api.Entry{Name: strings.Clone(e.Name), Attrs: attrs}
}

// isUnder tells whether a path's name is under another one's.
func isUnder(path, above []string) bool {
	return len(path) >= len(above) && slices.Equal(path[:len(above)], above)
}

func isAlias(e api.Entry) bool {
	_, ok := entry.Alias(e)
	return ok
}

// find tells where the entry of a path is, or would come, and whether it is
// there.
func (t *Tree) find(path []string) (int, bool) {
	return slices.BinarySearchFunc(t.nodes, path, func(n node, path []string) int {
		return slices.Compare(n.path, path)
	})
}

// at tells where the entry of a name, however it is written, is; or the code
// that says why there is none.
func (t *Tree) at(name string) (int, int) {
	if t == nil {
		return 0, api.OperationsError
	}
	normal, err := dn.Normal(name)
	if err != api.OK || normal == "" {
		return 0, api.InvalidDNSyntax
	}
	at, ok := t.find(pathOf(normal))
	if !ok {
		return 0, api.NoSuchObject
	}
	return at, api.Success
}

// asParent tells the code of putting an entry right under a path's name.
func (t *Tree) asParent(path []string) int {
	if len(path) == 0 {
		return api.Success
	}
	at, ok := t.find(path)
	if !ok {
		return api.NoSuchObject
	}
	if isAlias(t.nodes[at].entry) {
		return api.NamingViolation
	}
	return api.Success
}

// end tells where what is under the entry at a place ends.
func (t *Tree) end(at int) int {
	end := at + 1
	for end < len(t.nodes) && isUnder(t.nodes[end].path, t.nodes[at].path) {
		end++
	}
	return end
}

func (t *Tree) hasChildren(at int) bool {
	return t.end(at) > at+1
}

// replace puts nodes in place of those from one place up to another; in new
// memory, so that a list of them that is in use somewhere stays as it was.
func (t *Tree) replace(from, to int, nodes ...node) {
	t.nodes = slices.Concat(t.nodes[:from], nodes, t.nodes[to:])
}
