package node

import (
	"math"
	"slices"

	"wigwag/api"
	"wigwag/msg"
	"wigwag/table"
	"wigwag/window"
)

// handle: a message of a peer, or of the node itself.
func (n *Node) handle(from int, m msg.Msg, env Env) {
	switch m.Kind {
	case msg.Graft:
		n.keep(table.Entry{Group: m.Group, Child: from, Filters: m.Filters, Any: m.Any, Till: n.till()})
	case msg.Prune:
		// A wish that isn't there any more needn't go.
		_ = n.wishes.Drop(m.Group, from)
	case msg.Route:
		n.route(m, env)
	case msg.Down:
		n.down(m, env)
	case msg.Confirm:
		n.confirm(m)
	}
}

// till: the last tick for which a wish that comes now holds; no tick is behind the greatest one.
func (n *Node) till() int {
	return min(n.now, math.MaxInt-Lease) + Lease
}

// route: an event on its way to the root, which is the node itself or lies further on.
func (n *Node) route(m msg.Msg, env Env) {
	to := n.next(m.Group, env)
	if to == n.addr {
		n.send(m.Pub, msg.Msg{Kind: msg.Confirm, Group: m.Group, Pub: m.Pub, Seq: m.Seq}, env)
		n.down(m, env)
		return
	}
	if m.Hops >= api.MaxHops {
		n.lost++
		return
	}
	m.Hops++
	n.sendOn(to, m, env)
}

// confirm: a group's root has an event; it may be one of the node's own.
func (n *Node) confirm(m msg.Msg) {
	at := slices.IndexFunc(n.open, func(x own) bool { return x.seq == m.Seq })
	if m.Pub != n.addr || at < 0 {
		return
	}
	// A new list: sendOpen may be on its way through the old one.
	left := slices.DeleteFunc(slices.Clone(n.open[at].groups), func(g string) bool { return g == m.Group })
	n.open[at].groups = left
	if len(left) == 0 {
		n.open = slices.Delete(n.open, at, at+1)
	}
}

// down: an event goes to the subscriptions here, and to the children that want it.
func (n *Node) down(m msg.Msg, env Env) {
	if n.schema.Event(m.Event) != nil || !n.firstDown(went{m.Group, m.Pub, m.Seq}) {
		return
	}
	n.arrive(m)
	m.Kind, m.Hops = msg.Down, 0
	for _, x := range n.wishes.Children(m.Group) {
		if n.wants(x, m.Event) {
			n.send(x.Child, m, env)
		}
	}
}

// firstDown: isn't it one of the last ones that went down? From now on it is.
func (n *Node) firstDown(w went) bool {
	if slices.Contains(n.spread, w) {
		return false
	}
	if len(n.spread) == MaxSpread {
		n.spread = slices.Delete(n.spread, 0, 1)
	}
	n.spread = append(n.spread, w)
	return true
}

// arrive: an event that didn't come yet, by this group or another one, is for each subscription that takes it.
func (n *Node) arrive(m msg.Msg) {
	is, err := n.came.Come(m.Pub, m.Seq)
	if err != nil || is == window.Stale {
		n.lost++
	}
	if is != window.New {
		return
	}
	for _, s := range n.subs {
		if n.schema.Match(s.Filter, m.Event) {
			n.deliver(Delivery{Sub: s.Id, Pub: m.Pub, Seq: m.Seq, Event: cloned(m.Event)})
		}
	}
}

// deliver: it waits to be polled, if there is room.
func (n *Node) deliver(d Delivery) {
	if len(n.inbox) >= api.MaxInbox {
		n.lost++
		return
	}
	n.inbox = append(n.inbox, d)
}
