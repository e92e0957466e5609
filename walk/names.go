// Package walk goes from name to name, and from place to place, for the layers
// that follow names and that search: what they go over is theirs.
package walk

import (
	"slices"

	"verger/api"
)

// mostSteps is how often a name is followed at most.
const mostSteps = 16

// Names tells the names that one comes to be when it is followed, from itself
// on. A step tells what a name becomes, and whether it becomes anything.
func Names(name string, step func(name string) (string, bool, int)) ([]string, int) {
	names := []string{name}
	for {
		next, ok, code := step(names[len(names)-1])
		switch {
		case code != api.Success:
			return nil, code
		case !ok:
			return names, api.Success
		case len(names) > mostSteps || slices.Contains(names, next):
			return nil, api.AliasDereferencing
		}
		names = append(names, next)
	}
}
