package node

import (
	"errors"
	"slices"

	"wigwag/api"
	"wigwag/group"
	"wigwag/msg"
	"wigwag/peer"
	"wigwag/table"
)

// Tick: time goes on: what is over is forgotten, wishes are told again, events that aren't confirmed are sent again.
func (n *Node) Tick(now int, env Env) {
	n.now = now
	n.wishes.Expire(now)
	n.forgetDead(env)
	n.tellWishes(env)
	n.sendOpen(env)
}

// forgetDead: links to peers that don't live go, and wishes of such children.
func (n *Node) forgetDead(env Env) {
	for _, p := range n.peers() {
		if !env.Lives(p) {
			delete(n.links, p)
		}
	}
	for _, c := range n.children() {
		if !env.Lives(c) {
			n.wishes.Forget(c)
		}
	}
}

// children: of all groups, rising, each once.
func (n *Node) children() []int {
	var l []int
	for _, name := range n.wishes.Groups() {
		for _, x := range n.wishes.Children(name) {
			l = append(l, x.Child)
		}
	}
	slices.Sort(l)
	return slices.Compact(l)
}

// tellWishes: the next one on the way to each group's root hears what is wanted here and below.
func (n *Node) tellWishes(env Env) {
	for _, name := range n.groups() {
		to := n.next(name, env)
		if to != n.addr && to != peer.None {
			n.send(to, n.wish(name), env)
		}
	}
}

// groups: those of which something is wanted here or below, rising, each once.
func (n *Node) groups() []string {
	l := n.wishes.Groups()
	for _, s := range n.subs {
		l = append(l, s.Groups...)
	}
	slices.Sort(l)
	return slices.Compact(l)
}

// next: who is asked next on the way to a group's key; None: that isn't known.
func (n *Node) next(name string, env Env) int {
	to, err := env.Next(n.addr, group.Key(name))
	if err != nil {
		return peer.None
	}
	return to
}

// wish: what is wanted of a group, here and below.
func (n *Node) wish(name string) msg.Msg {
	var here table.Entry
	for _, s := range n.subs {
		if slices.Contains(s.Groups, name) {
			here.Filters = append(here.Filters, s.Text)
		}
	}
	filters, all := table.Join(append(n.wishes.Children(name), here))
	m := msg.Msg{Kind: msg.Graft, Group: name, Any: all, Filters: filters}
	if _, err := msg.Bytes(m); errors.Is(err, api.ErrFull) {
		return msg.Msg{Kind: msg.Graft, Group: name, Any: true}
	}
	return m
}

// sendOpen: each own event sets out to the groups that haven't confirmed it.
func (n *Node) sendOpen(env Env) {
	// Where the root is the node itself, events are confirmed meanwhile, and leave the list.
	for _, x := range slices.Clone(n.open) {
		for _, name := range x.groups {
			m := msg.Msg{Kind: msg.Route, Group: name, Pub: n.addr, Seq: x.seq, Event: x.event}
			n.sendOn(n.next(name, env), m, env)
		}
	}
}

// sendOn: an event goes to the next one on its way.
func (n *Node) sendOn(to int, m msg.Msg, env Env) {
	if to == peer.None {
		n.lost++
		return
	}
	n.send(to, m, env)
}
