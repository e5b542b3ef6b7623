package printer

import (
	"strings"

	"concord/api"
)

// canonical is the canonical form of a good tree, in new memory. Kids stay as many as they are, so which nodes fall away shows from above as well as from the leaves.
func canonical(n api.Node) api.Node {
	for isIdle(n) {
		n = n.Kids[0]
	}
	n.Field = strings.Clone(n.Field)
	n.Text = strings.Clone(n.Text)
	n.Lo.Text = strings.Clone(n.Lo.Text)
	n.Hi.Text = strings.Clone(n.Hi.Text)
	n.Occur = append([]int(nil), n.Occur...)
	n.Kids = append([]api.Node(nil), n.Kids...)
	for i, kid := range n.Kids {
		n.Kids[i] = canonical(kid)
	}
	return n
}

// isIdle tells whether a node means nothing beside its one kid.
func isIdle(n api.Node) bool {
	if len(n.Kids) != 1 {
		return false
	}
	switch n.Kind {
	case api.NAnd, api.NOr, api.NMax:
		return true
	case api.NList:
		return n.N == 0 && n.Occur[0] == api.Should
	}
	return false
}
