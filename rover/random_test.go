package rover_test

import (
	"math/rand/v2"
	"testing"

	"rover/api"
	"rover/rover"
)

// asked is a subscription as its client sees it.
type asked struct {
	filter []api.Test
	age    int  // with which it was made
	known  bool // by all brokers
	due    map[[2]int]bool
	told   map[[2]int]bool
	last   map[[2]int]int
	lost   int
}

// play is a net, calls by chance, and what must come of them.
type play struct {
	t         *testing.T
	n         *rover.Net
	r         *rand.Rand
	brokers   int
	published map[[2]int]api.Event
	stayOf    map[[2]int]int
	stays     [api.Clients]int
	asked     [api.Clients][api.Slots]*asked
}

// meets asks the document's words, one by one.
func meets(filter []api.Test, event api.Event) bool {
	for _, test := range filter {
		field := event.Fields[test.Field]
		if test.Op == 1 && field != test.N || test.Op == 2 && field == test.N || test.Op == 3 && field >= test.N || test.Op == 4 && field < test.N {
			return false
		}
	}
	return true
}

func newPlay(t *testing.T, seed uint64) *play {
	p := &play{t: t, r: rand.New(rand.NewPCG(seed, 1)), published: map[[2]int]api.Event{}, stayOf: map[[2]int]int{}}
	p.brokers = 1 + p.r.IntN(api.MaxBrokers)
	var parents []int
	for i := range p.brokers - 1 {
		parents = append(parents, p.r.IntN(i+1))
	}
	p.n = start(t, parents...)
	return p
}

// come lets a client come to any broker, whatever its home is.
func (p *play) come(client int) {
	if p.n.Attach(client, p.r.IntN(p.brokers)) == api.OK {
		p.stays[client]++
	}
}

func (p *play) subscribe(client int) {
	var filter []api.Test
	for range p.r.IntN(3) {
		filter = append(filter, api.Test{Field: p.r.IntN(3), Op: 1 + p.r.IntN(4), N: p.r.IntN(3)})
	}
	if slot, e := p.n.Subscribe(client, filter); e == api.OK {
		if p.asked[client][slot] != nil {
			p.t.Fatalf("P5: slot %d of client %d was not free", slot, client)
		}
		p.asked[client][slot] = &asked{filter: filter, age: p.n.Age(client, slot), due: map[[2]int]bool{}, told: map[[2]int]bool{}, last: map[[2]int]int{}}
	}
}

func (p *play) unsubscribe(client int) {
	slot := p.r.IntN(api.Slots)
	p.read(client)
	if p.n.Unsubscribe(client, slot) == api.OK {
		p.asked[client][slot] = nil
	}
}

func (p *play) publish(client int) {
	event := api.Event{Publisher: client, Fields: [3]int{p.r.IntN(3), p.r.IntN(3), p.r.IntN(3)}}
	number, e := p.n.Publish(client, event.Fields)
	if e != api.OK {
		return
	}
	event.Number = number
	id := [2]int{client, number}
	p.published[id], p.stayOf[id] = event, p.stays[client]
	for _, slots := range p.asked {
		for _, a := range slots {
			if a != nil && a.known && meets(a.filter, event) {
				a.due[id] = true
			}
		}
	}
}

func (p *play) deliver() {
	pending := p.n.Pending()
	if len(pending) == 0 {
		return
	}
	link := pending[p.r.IntN(len(pending))]
	deliver(p.t, p.n, link.From, link.To)
}

// read takes a client's log, and holds each entry against P9.
func (p *play) read(client int) {
	log, _ := p.n.Log(client)
	for _, entry := range log {
		a, event := p.asked[client][entry.Slot], entry.Event
		if a == nil {
			p.t.Fatalf("P9: client %d: %+v without a subscription", client, entry)
		}
		if entry.Lost > 0 {
			a.lost += entry.Lost
			continue
		}
		id := [2]int{event.Publisher, event.Number}
		stay := [2]int{event.Publisher, p.stayOf[id]}
		switch {
		case p.published[id] != event || event.Number == 0:
			p.t.Fatalf("P9: %+v was not published", event)
		case a.told[id]:
			p.t.Fatalf("P9: %+v is told twice", event)
		case !meets(a.filter, event):
			p.t.Fatalf("P9: %+v does not meet %v", event, a.filter)
		case event.Number <= a.last[stay]:
			p.t.Fatalf("P9: %+v is told after %d", event, a.last[stay])
		}
		a.told[id], a.last[stay] = true, event.Number
	}
}

// learn looks which subscriptions all brokers know: from then on their events are due.
func (p *play) learn() {
	for client, slots := range p.asked {
		for slot, a := range slots {
			if a != nil && !a.known {
				a.known = p.n.AllKnow(client, slot, a.age)
			}
		}
	}
}

// settle lets all clients come, and all frames, and then holds what was told against P10.
func (p *play) settle() {
	settle(p.t, p.n)
	for client := range api.Clients {
		p.come(client)
	}
	settle(p.t, p.n)
	p.learn()
	for client := range api.Clients {
		if v, _ := p.n.Look(client); v.At < 0 || v.Waits {
			p.t.Fatalf("P4: client %d has not come, though nothing waits: %+v", client, v)
		}
		p.read(client)
		for _, a := range p.asked[client] {
			if a != nil {
				p.holdDue(client, a)
			}
		}
	}
}

func (p *play) holdDue(client int, a *asked) {
	if !a.known {
		p.t.Fatalf("P10: a subscription of client %d is not known, though nothing waits", client)
	}
	missing := 0
	for id := range a.due {
		if !a.told[id] {
			missing++
		}
	}
	if missing > a.lost {
		p.t.Fatalf("P10: client %d: %d events are missing, %d were lost", client, missing, a.lost)
	}
}

// step makes one call; of each hundred, so many deliver a frame.
func (p *play) step(delivers int) {
	client := p.r.IntN(api.Clients)
	if p.r.IntN(100) < delivers {
		p.deliver()
		return
	}
	switch p.r.IntN(9) {
	case 0, 1:
		p.come(client)
	case 2:
		p.n.Detach(client)
	case 3:
		p.subscribe(client)
	case 4:
		p.unsubscribe(client)
	case 5, 6, 7:
		p.publish(client)
	default:
		p.read(client)
	}
}

func TestWhateverIsDeliveredInWhichOrder(t *testing.T) {
	for seed := range uint64(600) {
		p := newPlay(t, seed)
		for step := range 500 {
			p.step(20 + int(seed%4)*15)
			p.learn()
			if step%100 == 99 {
				p.settle()
			}
		}
	}
}
