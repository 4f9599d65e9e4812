package node

import (
	"maps"
	"slices"

	"wigwag/api"
	"wigwag/msg"
)

// Packets: what goes out now, by rising peers.
func (n *Node) Packets() []Out {
	var out []Out
	for _, to := range n.peers() {
		l := n.links[to]
		for _, text := range l.Packets() {
			out = append(out, Out{to, text})
		}
		n.links[to] = l
	}
	return out
}

// peers: those to whom there is a link, rising.
func (n *Node) peers() []int {
	return slices.Sorted(maps.Keys(n.links))
}

// Idle: does no packet wait, and is none owed?
func (n *Node) Idle() bool {
	for _, l := range n.links {
		if !l.Idle() {
			return false
		}
	}
	return true
}

// Take: a packet of a peer came.
func (n *Node) Take(from int, p string, env Env) error {
	if from == n.addr || !env.Lives(from) {
		return api.ErrDead
	}
	l := n.links[from]
	text, came, err := l.Take(p)
	if err != nil {
		return err
	}
	n.links[from] = l
	if !came {
		return nil
	}
	m, err := msg.Read(text)
	if err != nil {
		return err
	}
	n.handle(from, m, env)
	return nil
}

// send: a message for a peer; one for the node itself doesn't go out.
func (n *Node) send(to int, m msg.Msg, env Env) {
	if to == n.addr {
		n.handle(to, m, env)
		return
	}
	if !env.Lives(to) {
		return
	}
	text, err := msg.Bytes(m)
	l := n.links[to]
	if err != nil || l.Push(text) != nil {
		n.lost++
		return
	}
	n.links[to] = l
}
