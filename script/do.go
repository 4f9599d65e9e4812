package script

import (
	"errors"

	"wigwag/api"
	"wigwag/board"
)

// Do: a step; ErrForm beside the result, if the bulletin says that it may not be.
func (s *Show) Do(x Step) (Result, error) {
	switch x.Kind {
	case Join:
		return told(s.world.Join(x.Node, x.Id, x.N)), nil
	case Leave:
		return s.gone(x.Node, s.world.Leave(x.Node)), nil
	case Crash:
		return s.gone(x.Node, s.world.Crash(x.Node)), nil
	case Subscribe:
		return s.subscribe(x)
	case Unsubscribe:
		return s.unsubscribe(x)
	case Publish:
		return s.publish(x)
	case Poll:
		return s.poll(x)
	case Tick:
		s.world.Tick()
		return Result{}, nil
	case Deliver:
		return told(s.world.Deliver(s.packet(x.N))), nil
	case Drop:
		return told(s.world.Drop(s.packet(x.N))), nil
	case Copy:
		return told(s.world.Copy(s.packet(x.N))), nil
	case Settle:
		return answered(s.world.Settle()), nil
	case Calm:
		return answered(s.world.Calm(s.world.Quiet())), nil
	}
	return told(api.ErrArg), nil
}

// told: a call that answers an error alone.
func told(err error) Result {
	return Result{Code: api.Of(err)}
}

// answered: a call that answers yes or no.
func answered(yes bool) Result {
	if yes {
		return Result{N: 1}
	}
	return Result{}
}

// refused: what the bulletin says of a call that the world let pass.
func refused(err error) error {
	if err == nil {
		return nil
	}
	var c api.Code
	errors.As(err, &c)
	return &api.Fault{Where: "script: the board says " + err.Error(), At: int(c), Err: api.ErrForm}
}

// gone: a node that went has no subscriptions any more.
func (s *Show) gone(n int, err error) Result {
	if err == nil {
		s.board.Gone(n)
	}
	return told(err)
}

func (s *Show) subscribe(x Step) (Result, error) {
	id, err := s.world.Subscribe(x.Node, x.Text)
	if err != nil {
		return told(err), nil
	}
	return Result{N: id}, refused(s.board.Subscribe(board.Who{Node: x.Node, Sub: id}, x.Text))
}

func (s *Show) unsubscribe(x Step) (Result, error) {
	if err := s.world.Unsubscribe(x.Node, x.N); err != nil {
		return told(err), nil
	}
	return Result{}, refused(s.board.Unsubscribe(board.Who{Node: x.Node, Sub: x.N}))
}

func (s *Show) publish(x Step) (Result, error) {
	seq, err := s.world.Publish(x.Node, x.Event)
	if err != nil {
		return told(err), nil
	}
	return Result{N: seq}, refused(s.board.Publish(x.Node, seq, x.Event))
}

// poll: each delivery is given, also behind one that is refused: they were polled all the same.
func (s *Show) poll(x Step) (Result, error) {
	got, err := s.world.Poll(x.Node, x.N)
	if err != nil {
		return told(err), nil
	}
	var last error
	for _, d := range got {
		if err := s.board.Give(x.Node, d); err != nil {
			last = err
		}
	}
	return Result{Got: got}, refused(last)
}

// packet: the number in the bag of the packet that a step means: it counts them round and round, as they lie there.
func (s *Show) packet(n int) int {
	all := s.world.Packets()
	if len(all) == 0 {
		// No packet has this number.
		return 0
	}
	at := n % len(all)
	if at < 0 {
		// Below 0 Go's remainder isn't the modulus.
		at += len(all)
	}
	return all[at].Id
}
