package world

import (
	"wigwag/api"
	"wigwag/node"
	"wigwag/value"
)

// find: a node that lives.
func (w *World) find(n int) (*node.Node, error) {
	x, here := w.nodes[n]
	if !here {
		return nil, api.ErrDead
	}
	return x, nil
}

// Subscribe: at a node.
func (w *World) Subscribe(n int, text string) (int, error) {
	x, err := w.find(n)
	if err != nil {
		return 0, err
	}
	return x.Subscribe(text)
}

// Unsubscribe: at a node.
func (w *World) Unsubscribe(n, id int) error {
	x, err := w.find(n)
	if err != nil {
		return err
	}
	return x.Unsubscribe(id)
}

// Publish: at a node.
func (w *World) Publish(n int, ev value.Event) (int, error) {
	x, err := w.find(n)
	if err != nil {
		return 0, err
	}
	return x.Publish(ev)
}

// Poll: at a node.
func (w *World) Poll(n, most int) ([]node.Delivery, error) {
	x, err := w.find(n)
	if err != nil {
		return nil, err
	}
	return x.Poll(most), nil
}

// Open: the events of a node that aren't confirmed.
func (w *World) Open(n int) ([]int, error) {
	x, err := w.find(n)
	if err != nil {
		return nil, err
	}
	return x.Open(), nil
}

// Subs: the subscriptions of a node.
func (w *World) Subs(n int) ([]node.Sub, error) {
	x, err := w.find(n)
	if err != nil {
		return nil, err
	}
	return x.Subs(), nil
}

// Children: whose wishes of a group a node has.
func (w *World) Children(n int, g string) ([]int, error) {
	x, err := w.find(n)
	if err != nil {
		return nil, err
	}
	var l []int
	for _, wish := range x.Children(g) {
		l = append(l, wish.Child)
	}
	return l, nil
}
