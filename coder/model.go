package coder

// fullCount is how many bits a context counts till its counts are halved.
const fullCount = 1 << 16

// counts are how many noughts and how many ones there were.
type counts [2]uint64

func (c counts) noughts() uint64 { return c[0] }

func (c counts) all() uint64 { return c[0] + c[1] }

// model is what the bits so far tell of the next one.
type model struct {
	contexts []counts
	context  int
}

// newModel answers the model of an order, of no bits.
func newModel(k int) *model {
	m := &model{contexts: make([]counts, 1<<k)}
	for i := range m.contexts {
		m.contexts[i] = counts{1, 1}
	}
	return m
}

// counts are those of the context of the next bit.
func (m *model) counts() counts { return m.contexts[m.context] }

// learn counts the next bit.
func (m *model) learn(bit int) {
	c := &m.contexts[m.context]
	c[bit]++
	if c.all() == fullCount {
		for i, n := range c {
			c[i] = (n + 1) / 2
		}
	}
	m.context = (2*m.context + bit) % len(m.contexts)
}
