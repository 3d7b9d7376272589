// Package clients: where a client is, what it has published and asked for, and what was told to it.
package clients

import (
	"rover/api"
	"rover/filters"
	"rover/notes"
)

// Nowhere stands for a broker where there is none.
const Nowhere = -1

// Client is one of those who roam.
type Client struct {
	at, home  int
	stays     int
	published int
	slots     [api.Slots]slot
	log       []api.Entry
}

// New makes a client that is away and has no home.
func New() Client {
	c := Client{at: Nowhere, home: Nowhere}
	for i := range c.slots {
		c.slots[i] = newSlot()
	}
	return c
}

// Away tells whether the client is at no broker.
func (c *Client) Away() bool {
	return c.at == Nowhere
}

// At tells the broker the client is at, or Nowhere.
func (c *Client) At() int {
	return c.at
}

// Home tells the broker the client was last at, or Nowhere.
func (c *Client) Home() int {
	return c.home
}

// Come brings the client to a broker, which is its home from now on, and begins a new stay.
func (c *Client) Come(broker int) {
	c.at, c.home = broker, broker
	c.stays++
}

// Leave takes the client away; its home stays.
func (c *Client) Leave() {
	c.at = Nowhere
}

// Stay tells which of the client's stays this is.
func (c *Client) Stay() int {
	return c.stays
}

// Number gives the number of the client's next event.
func (c *Client) Number() int {
	c.published++
	return c.published
}

// Free tells the least slot without a subscription; false, if there is none.
func (c *Client) Free() (int, bool) {
	for i := range c.slots {
		if !c.slots[i].taken {
			return i, true
		}
	}
	return 0, false
}

// Has tells whether there is a subscription in a slot.
func (c *Client) Has(slot int) bool {
	return c.slots[slot].taken
}

// Subscribe makes a subscription in a slot that is free, and tells its age.
func (c *Client) Subscribe(slot int, filter filters.Filter) int {
	c.slots[slot].take(filter)
	return c.slots[slot].age
}

// Move takes the subscription in a slot to another broker, and tells its new age, and its filter.
func (c *Client) Move(slot int) (int, filters.Filter) {
	c.slots[slot].age++
	return c.slots[slot].age, c.slots[slot].filter
}

// Unsubscribe ends the subscription in a slot, and tells its age.
func (c *Client) Unsubscribe(slot int) int {
	c.slots[slot].free()
	return c.slots[slot].age
}

// Tell puts an entry at the end of the client's log; but not an event that the subscription has outrun, nor anything for a subscription that has ended.
func (c *Client) Tell(note notes.Note) {
	if c.slots[note.Slot].hear(note) {
		c.log = append(c.log, note.Entry)
	}
}

// TakeLog hands the log over: the client begins a new one, so that the two share no memory.
func (c *Client) TakeLog() []api.Entry {
	log := c.log
	c.log = nil
	return log
}

// View shows the client as it is; whether a broker waits for one of its subscriptions, the brokers know.
func (c *Client) View() api.View {
	v := api.View{At: c.at, Home: c.home}
	for i := range v.Slots {
		v.Slots[i] = c.Has(i)
	}
	return v
}
