package proc

import "heddle/api"

// cell is how a key stands that was written: with a value, or not at all.
type cell struct {
	value  int
	stands bool
}

// machine runs one procedure. What it writes is held beside the snapshot, so that an Abort leaves no trace there.
type machine struct {
	registers [api.Registers]int
	snapshot  map[int]int
	written   map[int]cell
	told      []int
}

// run answers the state in which the procedure ends.
func (m *machine) run(list []instruction) int {
	for at := 0; at < len(list); at++ {
		in := list[at]
		switch in.kind {
		case api.Abort:
			clear(m.written)
			return api.RolledBack
		case api.Less:
			if m.registers[in.on[0]] < m.registers[in.on[1]] {
				at += in.number
			}
		default:
			m.do(in)
		}
	}
	return api.Committed
}

// do carries out an instruction behind which the next one comes, whatever it found.
func (m *machine) do(in instruction) {
	r := in.on[0]
	first, second, third := m.registers[r], m.registers[in.on[1]], m.registers[in.on[2]]
	switch in.kind {
	case api.Const:
		m.registers[r] = in.number
	case api.Get:
		m.registers[r] = m.look(second).value
	case api.Has:
		m.registers[r] = 0
		if m.look(second).stands {
			m.registers[r] = 1
		}
	case api.Put:
		m.written[first] = cell{value: second, stands: true}
	case api.Del:
		m.written[first] = cell{}
	case api.Add:
		m.registers[r] = second + third
	case api.Sub:
		m.registers[r] = second - third
	case api.Mul:
		m.registers[r] = second * third
	case api.Emit:
		m.told = append(m.told, first)
	}
}

// look tells how a key stands for the procedure: what it wrote itself hides the snapshot.
func (m *machine) look(key int) cell {
	if c, ok := m.written[key]; ok {
		return c
	}
	value, ok := m.snapshot[key]
	return cell{value: value, stands: ok}
}
