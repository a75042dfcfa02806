package guard

// forever is what a fuse has left that never blows.
const forever = -1

// Fuse counts steps, and blows.
type Fuse struct {
	left int
}

// blown is what a fuse panics with: no error, so that Run lets it go on, and of one fuse alone, so that no other one catches it.
type blown struct {
	fuse *Fuse
}

// NewFuse is a fuse for so many steps; below 0: for ever.
func NewFuse(n int) *Fuse {
	return &Fuse{left: max(n, forever)}
}

// Left is how many steps are left; below 0: for ever.
func (f *Fuse) Left() int {
	return f.left
}

// Step counts a step, or blows the fuse, if none is left.
func (f *Fuse) Step() {
	switch f.left {
	case forever:
	case 0:
		panic(blown{f})
	default:
		f.left--
	}
}

// Catch runs a function, and tells whether the fuse blew within.
func (f *Fuse) Catch(do func()) (blew bool) {
	defer func() {
		switch thrown := recover().(type) {
		case nil:
		case blown:
			if thrown.fuse != f {
				panic(thrown)
			}
			blew = true
		default:
			panic(thrown)
		}
	}()
	if do != nil {
		do()
	}
	return false
}
