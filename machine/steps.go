package machine

import "symcut/api"

func (m *machine) push(value int) { m.stack = append(m.stack, value) }
func (m *machine) load(slot int)  { m.push(m.stack[m.frame().base+slot]) }
func (m *machine) store(slot int) { m.stack[m.frame().base+slot] = m.pop() }
func (m *machine) jump(place int) { m.frame().next = place }
func (m *machine) unless(place int) {
	if m.pop() == 0 {
		m.jump(place)
	}
}

// call takes what is handed over, which lies on the stack, as the first slots.
func (m *machine) call(function int) {
	switch {
	case m.fuel == 0:
		m.wrong = api.ErrFuel
		return
	case len(m.frames) == api.MaxDepth:
		m.wrong = api.ErrDepth
		return
	}
	m.fuel--
	f := &m.image.Functions[function]
	m.frames = append(m.frames, frame{function: f, base: len(m.stack) - len(f.Params)})
	m.stack = append(m.stack, make([]int, f.Slots-len(f.Params))...)
}

func (m *machine) giveBack(int) {
	result := m.pop()
	m.stack = m.stack[:m.frame().base]
	m.frames = m.frames[:len(m.frames)-1]
	m.push(result)
}

func (m *machine) less(int) {
	left, right := m.popPair()
	m.pushTruth(left < right)
}

func (m *machine) equal(int) {
	left, right := m.popPair()
	m.pushTruth(left == right)
}

func (m *machine) add(int) {
	left, right := m.popPair()
	m.push(left + right)
}

func (m *machine) subtract(int) {
	left, right := m.popPair()
	m.push(left - right)
}

func (m *machine) multiply(int) {
	left, right := m.popPair()
	m.push(left * right)
}

func (m *machine) divide(int) {
	left, right := m.popPair()
	if right == 0 {
		m.wrong = api.ErrZero
		return
	}
	m.push(left / right)
}

func (m *machine) negate(int) { m.push(-m.pop()) }
func (m *machine) not(int)    { m.pushTruth(m.pop() == 0) }
