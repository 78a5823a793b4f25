package tree

// IsShown: of a child that a proof hides, nothing stands right below it. (Of the root of no points neither, but it is nobody's child.)
func (n Node) IsShown() bool {
	return len(n.Points)+len(n.Children) > 0
}

// Every: it holds of every child, and of those below them.
func Every(n Node, holds func(child Node) bool) bool {
	for _, child := range n.Children {
		if !holds(child) || !Every(child, holds) {
			return false
		}
	}
	return true
}

// BoxesHold: of every child that is shown, the box and the number are those of what is shown.
func BoxesHold(root Node) bool {
	return Every(root, func(child Node) bool {
		if !child.IsShown() {
			return true
		}
		is := made(child)
		return child.Box == is.Box && child.Count == is.Count
	})
}

// DigestsHold: of every child that is shown, the digest is that of its text.
func DigestsHold(root Node) bool {
	return Every(root, func(child Node) bool {
		return !child.IsShown() || child.Digest == made(child).Digest
	})
}

// made: the node as what stands right below it makes it, whatever the node above says of it.
func made(n Node) Node {
	if len(n.Children) == 0 {
		return leafOf(n.Points)
	}
	return nodeOf(n.Children)
}
