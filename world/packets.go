package world

import "wigwag/bag"

const (
	mostTurns  = 400  // of a Settle
	mostRounds = 1000 // of a Calm
)

// Flush: all links' packets come into the bag, as far as there is room.
func (w *World) Flush() int {
	sent := 0
	for _, n := range w.Live() {
		for _, p := range w.nodes[n].Packets() {
			if !w.Lives(p.To) {
				continue
			}
			// One for which there is no room is lost; its link sends it again.
			if _, err := w.packets.Send(n, p.To, p.Text); err == nil {
				sent++
			}
		}
	}
	return sent
}

// Tick: time goes on, for the ring, the fingers, and all nodes; then all flush.
func (w *World) Tick() {
	w.ring.Round()
	w.fingers.Round()
	w.now++
	for _, n := range w.Live() {
		w.nodes[n].Tick(w.now, w)
	}
	w.Flush()
}

// Deliver: a packet arrives.
func (w *World) Deliver(id int) error {
	p, err := w.packets.Take(id)
	if err != nil {
		return err
	}
	// Whom it goes to lives: no packet to another one is in the bag. Who sent it may be gone; the node asks for that first.
	return w.nodes[p.To].Take(p.From, p.Text, w)
}

// Drop: a packet is lost.
func (w *World) Drop(id int) error {
	_, err := w.packets.Take(id)
	return err
}

// Copy: a packet is doubled.
func (w *World) Copy(id int) error {
	_, err := w.packets.Copy(id)
	return err
}

// Packets: those on their way, the eldest first.
func (w *World) Packets() []bag.Packet {
	return w.packets.All()
}

// Settle: all packets arrive, and what they bring about, until none is on its way; at most so many turns.
func (w *World) Settle() bool {
	for range mostTurns {
		for _, p := range w.Packets() {
			// What a packet is answered changes nothing here: it is out of the bag.
			_ = w.Deliver(p.Id)
		}
		// The bag was emptied just now.
		if w.Flush() == 0 {
			return true
		}
	}
	return false
}

// Calm: so many ticks, each with all packets.
func (w *World) Calm(rounds int) bool {
	settled := true
	for range min(rounds, mostRounds) {
		w.Tick()
		settled = w.Settle()
	}
	return settled
}
