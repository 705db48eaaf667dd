package server

import (
	"maps"

	"tracery/api"
	"tracery/receiver"
	"tracery/sender"
)

// session is what a server knows of a site.
type session struct {
	attempt int
	epoch   int // 0: it never joined, and has neither sender nor receiver
	joined  bool
	out     *sender.Sender
	in      *receiver.Receiver
	welcome api.Frame
	over    map[int]int // how many edits came in each session that is over, by its epoch, if any did
}

// got is how many edits came in this session.
func (c *session) got() int {
	if c.in == nil {
		return 0
	}
	return c.in.Got()
}

// cameIn is how many edits came in the session of that epoch, be it this one or one that is over.
func (c *session) cameIn(epoch int) int {
	if epoch == c.epoch {
		return c.got()
	}
	return c.over[epoch]
}

// begin begins a new session.
func (c *session) begin(attempt, epoch int) {
	over := c.over
	if over == nil {
		over = map[int]int{}
	}
	if n := c.got(); n > 0 {
		over[c.epoch] = n
	}
	*c = session{
		attempt: attempt, epoch: epoch, joined: true,
		out: sender.New(api.MaxHist), in: receiver.New(api.MaxWindow), over: over,
	}
}

// admits tells whether a frame of that epoch is of this session, and it goes on.
func (c *session) admits(epoch int) api.Errno {
	if !c.joined {
		return api.ErrJoined
	}
	if epoch != c.epoch {
		return api.ErrEpoch
	}
	return api.OK
}

// ackTo tells the site how many of its edits came.
func (c *session) ackTo(site int) api.Frame {
	return api.Frame{Kind: api.FrAck, To: site, Epoch: c.epoch, Ack: c.got()}
}

// dataTo tells the site the entry that has that number at its sender.
func (c *session) dataTo(site, n int) api.Frame {
	b, _ := c.out.Body(n)
	return api.Frame{Kind: api.FrData, To: site, Epoch: c.epoch, Seq: n, Body: b}
}

// part gives a session that was copied what it may change.
func (c *session) part() {
	c.over = maps.Clone(c.over)
	if c.out != nil {
		c.out, c.in = c.out.Clone(), c.in.Clone()
	}
}
