package trace

// deepest is how deep calls are nested: a document may be longer than they can be.
const deepest = 1000

// row is all names, in an order in which those of each document stand; but if there is none, fewer of them. Each document goes along its own atoms, and waits at each one for all others that have it: those that go round in a ring wait for ever, and so does one that has a name twice, for itself.
func (b *book) row() []int {
	having := b.having()
	came := make([]int, len(b.names)) // how many documents have come to a name
	at := make([]int, len(b.docs))    // how many atoms a document has behind it
	var row, later []int
	var goOn func(doc int, deep int)
	goOn = func(doc int, deep int) {
		if at[doc] == len(b.docs[doc]) {
			return
		}
		if deep == deepest {
			later = append(later, doc)
			return
		}
		n := b.docs[doc][at[doc]].name
		came[n]++
		if came[n] < len(having[n]) {
			return
		}
		row = append(row, n)
		for _, other := range having[n] {
			at[other]++
			goOn(other, deep+1)
		}
	}
	for doc := range b.docs {
		goOn(doc, 0)
		for len(later) > 0 {
			next := later[len(later)-1]
			later = later[:len(later)-1]
			goOn(next, 0)
		}
	}
	return row
}

// having are, for each name, the documents that have it, each as often as it does.
func (b *book) having() [][]int {
	having := make([][]int, len(b.names))
	for i, row := range b.docs {
		for _, a := range row {
			having[a.name] = append(having[a.name], i)
		}
	}
	return having
}
