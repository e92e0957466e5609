package tree

import (
	"verger/api"
	"verger/dn"
	"verger/entry"
	"verger/rdn"
)

// Add puts an entry of that name, with these attributes, into the tree.
func (t *Tree) Add(name string, attrs []api.Attr) int {
	if t == nil {
		return api.OperationsError
	}
	e, code := entry.Make(name, attrs)
	if code != api.Success {
		return code
	}
	n := nodeOf(e)
	at, isThere := t.find(n.path)
	if isThere {
		return api.EntryAlreadyExists
	}
	if code := t.asParent(n.path[:len(n.path)-1]); code != api.Success {
		return code
	}
	if len(t.nodes) >= api.MaxEntries {
		return api.UnwillingToPerform
	}
	t.replace(at, at, n)
	return api.Success
}

// Delete takes an entry out of the tree.
func (t *Tree) Delete(name string) int {
	at, code := t.at(name)
	if code != api.Success {
		return code
	}
	if t.hasChildren(at) {
		return api.NotAllowedOnNonLeaf
	}
	t.replace(at, at+1)
	return api.Success
}

// Modify changes an entry by the changes, one after the other.
func (t *Tree) Modify(name string, list []api.Change) int {
	at, code := t.at(name)
	if code != api.Success {
		return code
	}
	e, code := entry.Modify(t.nodes[at].entry, list)
	if code != api.Success {
		return code
	}
	if isAlias(e) && t.hasChildren(at) {
		return api.ObjectClassViolation
	}
	t.replace(at, at+1, nodeOf(e))
	return api.Success
}

// Rename gives an entry another first part, and, if it has one, another
// superior, with all that is under it.
func (t *Tree) Rename(name, part string, deleteOld bool, superior string, has bool) int {
	if t == nil {
		return api.OperationsError
	}
	if !isPart(part) || has && !isName(superior) {
		return api.InvalidDNSyntax
	}
	at, code := t.at(name)
	if code != api.Success {
		return code
	}
	if !has {
		superior, _ = dn.Parent(name)
	}
	to, code := t.newName(at, part, superior)
	if code != api.Success {
		return code
	}
	e, code := entry.Rename(t.nodes[at].entry, to, deleteOld)
	if code != api.Success {
		return code
	}
	return t.move(at, e)
}

func isPart(text string) bool {
	_, err := rdn.Parse(text)
	return err == api.OK
}

func isName(text string) bool {
	_, err := dn.Normal(text)
	return err == api.OK
}

// newName tells the normal text of the name by which the entry at a place would
// come under a new parent; or the code that says why it can't.
func (t *Tree) newName(at int, part, superior string) (string, int) {
	parent, _ := dn.Normal(superior)
	above := pathOf(parent)
	if code := t.asParent(above); code != api.Success {
		return "", code
	}
	if isUnder(above, t.nodes[at].path) {
		return "", api.UnwillingToPerform
	}
	to, err := dn.Join(part, parent)
	if err != api.OK {
		return "", api.InvalidDNSyntax
	}
	if other, isThere := t.find(pathOf(to)); isThere && other != at {
		return "", api.EntryAlreadyExists
	}
	return to, api.Success
}

// move puts an entry, under its new name, in place of the one at a place, and
// brings along all that is under that one.
func (t *Tree) move(at int, e api.Entry) int {
	from, end := t.nodes[at].entry.Name, t.end(at)
	moved := []node{nodeOf(e)}
	for _, n := range t.nodes[at+1 : end] {
		name, err := dn.Move(n.entry.Name, from, e.Name)
		if err != api.OK {
			return api.UnwillingToPerform
		}
		moved = append(moved, nodeOf(api.Entry{Name: name, Attrs: n.entry.Attrs}))
	}
	t.replace(at, end)
	// Their order among themselves is what it was, and nothing comes between.
	place, _ := t.find(moved[0].path)
	t.replace(place, place, moved...)
	return api.Success
}
