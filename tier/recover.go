package tier

import (
	"strings"

	"coldstore/api"
	"coldstore/depot"
	"coldstore/guard"
	"coldstore/sha"
)

// Recover ends what was begun.
func Recover(d *depot.Depot, now int64) (int, api.Errno) {
	n := 0
	e := guard.Run(func() {
		names := guard.Value(d.Hot().List(noteDir))
		x := d.Index()
		for _, name := range names {
			if id, e := sha.Parse(strings.TrimPrefix(name, noteDir)); e == api.OK {
				m := move{depot: d, index: x, id: id, now: now}
				m.goOn()
			}
			guard.Must(d.Hot().Drop(name))
			n++
		}
	})
	return n, e
}

// goOn does what is left of a move that was cut short, but that its note goes; it throws the error.
func (m *move) goOn() {
	inHot := guard.Value(isListed(m.depot.Hot().List, m.id))
	inCold := guard.Value(isListed(m.depot.Cold().List, m.id))
	_, cold, there := m.index.Pack(m.id)
	if there && !cold && inHot && !inCold {
		do(m.get, m.put)
		inCold = true
	}
	if there && !cold && inCold {
		do(m.commit)
		cold = true
	}
	if cold && inHot {
		do(m.drop)
	}
}

// do does steps; it throws the error.
func do(steps ...func() api.Errno) {
	_, e := guard.All(steps...)
	guard.Must(e)
}
