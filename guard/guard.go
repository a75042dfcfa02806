// Package guard is layer 1: see shared/doc/01-guard.md.
package guard

import "coldstore/api"

// Run runs a function: the error that it panics with.
func Run(f func()) (e api.Errno) {
	defer func() {
		switch thrown := recover().(type) {
		case nil:
		case api.Errno:
			e = thrown
		default:
			panic(thrown)
		}
	}()
	if f != nil {
		f()
	}
	return api.OK
}

// Must panics with an error, unless it is OK.
func Must(e api.Errno) {
	if e != api.OK {
		panic(e)
	}
}

// Value is a value, unless there is an error, which is panicked with.
func Value[T any](v T, e api.Errno) T {
	Must(e)
	return v
}

// All does steps, until one has an error: how many had none, and that error.
func All(steps ...func() api.Errno) (int, api.Errno) {
	for done, step := range steps {
		if e := outcome(step); e != api.OK {
			return done, e
		}
	}
	return len(steps), api.OK
}

// outcome is a step's error. All isn't said to throw, so what a step throws counts as what it answers.
func outcome(step func() api.Errno) api.Errno {
	if step == nil {
		return api.OK
	}
	return Run(func() { Must(step()) })
}

// Finally runs a function, and another one behind it, whatever became of the first one: the first error of both.
func Finally(f, last func()) (e api.Errno) {
	// Deferred, since a panic that isn't an error goes on through Run.
	defer func() {
		if behind := Run(last); e == api.OK {
			e = behind
		}
	}()
	return Run(f)
}
