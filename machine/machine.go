// Package machine: takes procedures apart and runs each of them alone, for package proc and for the epochs.
package machine

import "heddle/api"

// Cell is how a key stands that was written: with a value, or not at all.
type Cell struct {
	Value  int
	Stands bool
}

// Run is what came of a procedure that ran alone.
type Run struct {
	Outcome api.Outcome
	Reads   []int // keys, as often as they were read
	Writes  map[int]Cell
}

// machine is a procedure as it runs. What it writes is held beside the snapshot, so that an Abort leaves no trace there, and so that many may run on one snapshot.
type machine struct {
	registers [api.Registers]int
	snapshot  Snapshot
	run       Run
}

// Execute runs a code on a snapshot, which stays as it is; it answers false if the code is no procedure.
func Execute(code string, snapshot Snapshot) (Run, bool) {
	list, ok := decode(code)
	if !ok {
		return Run{}, false
	}
	m := machine{snapshot: snapshot, run: Run{Writes: map[int]Cell{}}}
	m.run.Outcome.State = m.through(list)
	return m.run, true
}

// through answers the state in which the procedure ends.
func (m *machine) through(list []instruction) int {
	for at := 0; at < len(list); at++ {
		in := list[at]
		switch in.kind {
		case api.Abort:
			clear(m.run.Writes)
			return api.RolledBack
		case api.Less:
			if m.registers[in.on[0]] < m.registers[in.on[1]] {
				at += in.number
			}
		default:
			m.do(in)
		}
	}
	return api.Committed
}

// do carries out an instruction behind which the next one comes, whatever it found.
func (m *machine) do(in instruction) {
	r := in.on[0]
	first, second, third := m.registers[r], m.registers[in.on[1]], m.registers[in.on[2]]
	switch in.kind {
	case api.Const:
		m.registers[r] = in.number
	case api.Get:
		m.registers[r] = m.read(second).Value
	case api.Has:
		m.registers[r] = 0
		if m.read(second).Stands {
			m.registers[r] = 1
		}
	case api.Put:
		m.run.Writes[first] = Cell{Value: second, Stands: true}
	case api.Del:
		m.run.Writes[first] = Cell{}
	case api.Add:
		m.registers[r] = second + third
	case api.Sub:
		m.registers[r] = second - third
	case api.Mul:
		m.registers[r] = second * third
	case api.Emit:
		m.run.Outcome.Told = append(m.run.Outcome.Told, first)
	}
}

// read tells how a key stands for the procedure: what it wrote itself hides the snapshot, but the key is read all the same.
func (m *machine) read(key int) Cell {
	m.run.Reads = append(m.run.Reads, key)
	if c, ok := m.run.Writes[key]; ok {
		return c
	}
	value, ok := m.snapshot[key]
	return Cell{Value: value, Stands: ok}
}
