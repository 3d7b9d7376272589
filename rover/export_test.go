package rover

// Age tells the age with which the broker of a client knows the subscription in a slot.
func (n *Net) Age(client, slot int) int {
	return n.brokers[n.clients[client].Home()].Known(client, slot).Age
}

// AllKnow tells whether all brokers know the subscription that was made with this age, or know it by one of its moves.
func (n *Net) AllKnow(client, slot, age int) bool {
	for broker := range n.tree.Brokers() {
		known := n.brokers[broker].Known(client, slot)
		if known == nil || known.Age < age {
			return false
		}
	}
	return true
}
