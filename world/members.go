package world

import (
	"wigwag/api"
	"wigwag/peer"
)

// Join: a node comes, at a place, told by one that lives; it gets the wishes of the groups that are its own now.
func (w *World) Join(n int, id api.Id, via int) error {
	if err := w.ring.Join(n, id, via); err != nil {
		return err
	}
	w.add(n)
	p, _ := w.ring.Peer(n)
	head := w.nodes[peer.Head(p, w.ring)]
	w.nodes[n].Get(head.Hand(w.ring.Id(p.Pred), id))
	return nil
}

// Leave: a node goes, and its wishes go to who comes behind it.
func (w *World) Leave(n int) error {
	p, err := w.ring.Peer(n)
	if err != nil {
		return err
	}
	if err := w.ring.Fail(n); err != nil {
		return err
	}
	head := w.nodes[peer.Head(p, w.ring)]
	// From a place round to itself all places are met.
	head.Get(w.nodes[n].Hand(p.Id, p.Id))
	w.remove(n)
	return nil
}

// Crash: a node goes.
func (w *World) Crash(n int) error {
	if err := w.ring.Fail(n); err != nil {
		return err
	}
	w.remove(n)
	return nil
}

// remove: one who is no member any more has no node, and nothing comes to it.
func (w *World) remove(n int) {
	delete(w.nodes, n)
	w.packets.Purge(n)
}
