// Package clients: where a client is, what it has published, and what was told to it.
package clients

import "rover/api"

// Nowhere stands for a broker where there is none.
const Nowhere = -1

// Client is one of those who roam.
type Client struct {
	at, home  int
	published int
	log       []api.Entry
}

// New makes a client that is away and has no home.
func New() Client {
	return Client{at: Nowhere, home: Nowhere}
}

// Away tells whether the client is at no broker.
func (c *Client) Away() bool {
	return c.at == Nowhere
}

// At tells the broker the client is at, or Nowhere.
func (c *Client) At() int {
	return c.at
}

// Come brings the client to a broker, which is its home from now on.
func (c *Client) Come(broker int) {
	c.at, c.home = broker, broker
}

// Leave takes the client away; its home stays.
func (c *Client) Leave() {
	c.at = Nowhere
}

// Number gives the number of the client's next event.
func (c *Client) Number() int {
	c.published++
	return c.published
}

// Tell puts an entry at the end of the client's log.
func (c *Client) Tell(entry api.Entry) {
	c.log = append(c.log, entry)
}

// TakeLog hands the log over: the client begins a new one, so that the two share no memory.
func (c *Client) TakeLog() []api.Entry {
	log := c.log
	c.log = nil
	return log
}

// View shows the client as it is.
func (c *Client) View() api.View {
	return api.View{At: c.at, Home: c.home}
}
