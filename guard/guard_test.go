package guard_test

import (
	"errors"
	"math/rand"
	"strconv"
	"testing"

	"coldstore/api"
	"coldstore/guard"
)

// panicked is what a function panics with, and whether it does.
func panicked(f func()) (value any, did bool) {
	defer func() {
		if did {
			value = recover()
		}
	}()
	did = true
	f()
	did = false
	return nil, did
}

// throws is a function that panics with an error, api.OK too.
func throws(e api.Errno) func() {
	return func() { panic(e) }
}

// strangers are things other than errors of package api.
func strangers() []any {
	e := api.ErrArg
	return []any{"other", 3, int(api.ErrArg), uint8(1), errors.New("other"), struct{}{}, &e, [1]api.Errno{e}, 2.5}
}

func TestRunTellsWhatIsThrown(t *testing.T) {
	ran := 0
	if e := guard.Run(func() { ran++ }); e != api.OK || ran != 1 {
		t.Errorf("a function without an error: %d, run %d times", e, ran)
	}
	if e := guard.Run(nil); e != api.OK {
		t.Errorf("nil: %d", e)
	}
	for _, e := range []api.Errno{api.OK, api.ErrArg, api.ErrCrash, -1, 1 << 40} {
		behind := false
		got := guard.Run(func() {
			throws(e)()
			behind = true
		})
		if got != e || behind {
			t.Errorf("thrown %d: %d, went on: %v", e, got, behind)
		}
	}
}

func TestRunLetsOtherPanicsGoOn(t *testing.T) {
	for _, x := range strangers() {
		if got, did := panicked(func() { guard.Run(func() { panic(x) }) }); !did || got != x {
			t.Errorf("%v: %v, %v", x, got, did)
		}
	}
	if _, did := panicked(func() { guard.Run(func() { panic(nil) }) }); !did {
		t.Error("a panic of nil was caught")
	}
	if got, did := panicked(func() {
		guard.Run(func() {
			var none []int
			_ = none[len(none)]
		})
	}); !did || got == nil {
		t.Error("an index out of its range was caught")
	}
}

func TestMust(t *testing.T) {
	if got, did := panicked(func() { guard.Must(api.OK) }); did {
		t.Errorf("OK panics: %v", got)
	}
	for _, e := range []api.Errno{api.ErrArg, api.ErrFull, api.ErrCrash, -5, 999} {
		if got, did := panicked(func() { guard.Must(e) }); !did || got != any(e) {
			t.Errorf("%d: %v, %v", e, got, did)
		}
	}
}

func TestValue(t *testing.T) {
	list := []string{"a", "b"}
	if got := guard.Value(list, api.OK); len(got) != 2 || got[1] != "b" {
		t.Errorf("%v", got)
	}
	if got := guard.Value(api.ID{7}, api.OK); got != (api.ID{7}) {
		t.Errorf("%v", got)
	}
	if got := guard.Value[error](nil, api.OK); got != nil {
		t.Errorf("%v", got)
	}
	x := 1
	for _, e := range []api.Errno{api.ErrNone, -1} {
		if got := guard.Run(func() { x = guard.Value(2, e) }); got != e || x != 1 {
			t.Errorf("with %d: %d, value %d", e, got, x)
		}
	}
}

// answers is steps that answer errors, and how many of them were done.
func answers(done *int, list ...api.Errno) []func() api.Errno {
	var steps []func() api.Errno
	for _, e := range list {
		steps = append(steps, func() api.Errno {
			*done++
			return e
		})
	}
	return steps
}

func TestAll(t *testing.T) {
	for _, c := range []struct {
		list []api.Errno
		n    int
		e    api.Errno
		done int
	}{
		{nil, 0, api.OK, 0},
		{[]api.Errno{0}, 1, api.OK, 1},
		{[]api.Errno{0, 0, 0}, 3, api.OK, 3},
		{[]api.Errno{api.ErrMore}, 0, api.ErrMore, 1},
		{[]api.Errno{api.ErrMore, 0, 0}, 0, api.ErrMore, 1},
		{[]api.Errno{0, api.ErrFull, api.ErrMore}, 1, api.ErrFull, 2},
		{[]api.Errno{0, 0, -3}, 2, -3, 3},
	} {
		done := 0
		if n, e := guard.All(answers(&done, c.list...)...); n != c.n || e != c.e || done != c.done {
			t.Errorf("%v: %d %d, %d done", c.list, n, e, done)
		}
	}
}

func TestAllDoesStepsInOrder(t *testing.T) {
	order := ""
	var steps []func() api.Errno
	for i := range 5 {
		steps = append(steps, func() api.Errno {
			order += strconv.Itoa(i)
			return api.OK
		})
	}
	if n, e := guard.All(steps...); n != 5 || e != api.OK || order != "01234" {
		t.Errorf("%d %d %s", n, e, order)
	}
}

func TestAllOfStepsThatAreNoneOrThrow(t *testing.T) {
	ok := func() api.Errno { return api.OK }
	if n, e := guard.All(nil, ok, nil); n != 3 || e != api.OK {
		t.Errorf("nil steps: %d %d", n, e)
	}
	behind := false
	n, e := guard.All(ok, func() api.Errno {
		guard.Must(api.ErrHash)
		return api.OK
	}, func() api.Errno {
		behind = true
		return api.OK
	})
	if n != 1 || e != api.ErrHash || behind {
		t.Errorf("a step that throws: %d %d %v", n, e, behind)
	}
	if n, e := guard.All(func() api.Errno { panic(api.OK) }, ok); n != 2 || e != api.OK {
		t.Errorf("a step that throws OK: %d %d", n, e)
	}
	if got, did := panicked(func() { guard.All(func() api.Errno { panic("other") }) }); !did || got != "other" {
		t.Errorf("another panic: %v %v", got, did)
	}
}

func TestFinally(t *testing.T) {
	nothing := func() {}
	for i, c := range []struct {
		f, last func()
		e       api.Errno
	}{
		{nothing, nothing, api.OK},
		{nil, nil, api.OK},
		{throws(api.ErrMany), nothing, api.ErrMany},
		{throws(api.ErrMany), nil, api.ErrMany},
		{throws(api.ErrMany), throws(api.ErrFull), api.ErrMany},
		{throws(api.OK), throws(api.ErrFull), api.ErrFull},
		{nothing, throws(api.ErrFull), api.ErrFull},
		{nil, throws(api.ErrFull), api.ErrFull},
		{nothing, throws(api.OK), api.OK},
	} {
		if e := guard.Finally(c.f, c.last); e != c.e {
			t.Errorf("case %d: %d, not %d", i, e, c.e)
		}
	}
}

func TestFinallyDoesEachOnceInOrder(t *testing.T) {
	for _, c := range []struct {
		f    func()
		want string
	}{
		{func() {}, "flb"},
		{throws(api.ErrArg), "flb"},
		{func() { panic("other") }, "fl"},
	} {
		order := ""
		panicked(func() {
			guard.Finally(func() {
				order += "f"
				c.f()
			}, func() { order += "l" })
			order += "b"
		})
		if order != c.want {
			t.Errorf("%s, not %s", order, c.want)
		}
	}
}

func TestFinallyLetsOtherPanicsGoOnBehindLast(t *testing.T) {
	for _, x := range strangers() {
		for _, e := range []api.Errno{api.OK, api.ErrArg} {
			last := 0
			got, did := panicked(func() {
				guard.Finally(func() { panic(x) }, func() {
					last++
					guard.Must(e)
				})
			})
			if !did || got != x || last != 1 {
				t.Errorf("%v of f, %d of last: %v %v, last done %d times", x, e, got, did, last)
			}
		}
		for _, f := range []func(){nil, func() {}, throws(api.ErrMany)} {
			if got, did := panicked(func() { guard.Finally(f, func() { panic(x) }) }); !did || got != x {
				t.Errorf("%v of last: %v %v", x, got, did)
			}
		}
	}
}

func TestRunWithinRunHasWhatIsThrown(t *testing.T) {
	var inner api.Errno
	behind := false
	outer := guard.Run(func() {
		inner = guard.Run(throws(api.ErrForm))
		behind = true
	})
	if inner != api.ErrForm || outer != api.OK || !behind {
		t.Errorf("%d %d %v", inner, outer, behind)
	}
	outer = guard.Run(func() {
		inner = guard.Run(throws(api.ErrForm))
		guard.Must(api.ErrSum)
	})
	if inner != api.ErrForm || outer != api.ErrSum {
		t.Errorf("%d %d", inner, outer)
	}
	outer = guard.Run(func() { guard.Must(guard.Run(func() { guard.Must(guard.Run(throws(api.ErrName))) })) })
	if outer != api.ErrName {
		t.Errorf("handed on: %d", outer)
	}
	outer = guard.Run(func() {
		inner = guard.Finally(throws(api.ErrForm), func() { guard.Run(throws(api.ErrMore)) })
	})
	if inner != api.ErrForm || outer != api.OK {
		t.Errorf("within last: %d %d", inner, outer)
	}
}

func TestFuseBlows(t *testing.T) {
	for n := range 6 {
		f := guard.NewFuse(n)
		for i := range n {
			if f.Left() != n-i {
				t.Errorf("fuse for %d, behind %d: %d left", n, i, f.Left())
			}
			if f.Catch(f.Step) {
				t.Errorf("fuse for %d: step %d blows it", n, i+1)
			}
		}
		for range 3 {
			if f.Left() != 0 {
				t.Errorf("fuse for %d: %d left", n, f.Left())
			}
			behind := false
			if !f.Catch(func() {
				f.Step()
				behind = true
			}) || behind {
				t.Errorf("fuse for %d isn't blown", n)
			}
		}
	}
	most := int(^uint(0) >> 1)
	f := guard.NewFuse(most)
	f.Step()
	if f.Left() != most-1 {
		t.Errorf("the longest fuse: %d left", f.Left())
	}
}

func TestFuseForEver(t *testing.T) {
	for _, n := range []int{-1, -2, -1000, -1 << 63} {
		f := guard.NewFuse(n)
		for range 3000 {
			f.Step()
		}
		if f.Left() >= 0 {
			t.Errorf("fuse for %d: %d left", n, f.Left())
		}
	}
}

func TestCatch(t *testing.T) {
	f, other := guard.NewFuse(0), guard.NewFuse(0)
	ran := 0
	if f.Catch(func() { ran++ }) || ran != 1 {
		t.Errorf("without a step: run %d times", ran)
	}
	if f.Catch(nil) {
		t.Error("nil")
	}
	if !f.Catch(f.Step) || f.Catch(func() {}) {
		t.Error("blown ahead isn't blown within")
	}
	for _, e := range []api.Errno{api.OK, api.ErrArg} {
		if got, did := panicked(func() { f.Catch(throws(e)) }); !did || got != any(e) {
			t.Errorf("an error within: %v %v", got, did)
		}
	}
	for _, x := range strangers() {
		if got, did := panicked(func() { f.Catch(func() { panic(x) }) }); !did || got != x {
			t.Errorf("another panic within: %v %v", got, did)
		}
	}
	inner, outer, behind := false, false, false
	outer = f.Catch(func() {
		inner = other.Catch(f.Step)
		behind = true
	})
	if inner || !outer || behind {
		t.Errorf("another fuse's Catch: %v %v %v", inner, outer, behind)
	}
	outer = f.Catch(func() { inner = f.Catch(f.Step) })
	if !inner || outer {
		t.Errorf("its own Catch within its own: %v %v", inner, outer)
	}
}

// nest is a function with some calls of the package around it, as r chooses; each of them counts in ended, if it goes on behind what it is around.
func nest(r *rand.Rand, depth int, do func(), ended *int) func() {
	if depth == 0 {
		return do
	}
	within := nest(r, depth-1, do, ended)
	switch r.Intn(6) {
	case 0:
		return func() { guard.Run(within); *ended++ }
	case 1:
		return func() { guard.Finally(within, throws(api.ErrArg)); *ended++ }
	case 2:
		return func() { guard.Finally(throws(api.ErrArg), within); *ended++ }
	case 3:
		return func() { guard.NewFuse(0).Catch(within); *ended++ }
	case 4:
		return func() {
			guard.All(func() api.Errno { within(); return api.ErrArg })
			*ended++
		}
	default:
		return func() {
			guard.Run(func() { within(); *ended++ })
			*ended++
		}
	}
}

func TestBlownFuseGoesThrough(t *testing.T) {
	r := rand.New(rand.NewSource(1))
	for depth := range 40 {
		f := guard.NewFuse(1)
		ended := 0
		if f.Catch(nest(r, depth, f.Step, &ended)) || ended < depth {
			t.Errorf("depth %d: the first step blows it, or %d ended", depth, ended)
		}
		ended = 0
		if !f.Catch(nest(r, depth, f.Step, &ended)) || ended != 0 {
			t.Errorf("depth %d: %d ended", depth, ended)
		}
	}
}

func TestBlownFuseGoesOnBehindLast(t *testing.T) {
	f := guard.NewFuse(0)
	order := ""
	if !f.Catch(func() {
		guard.Run(func() {
			guard.Finally(func() {
				order += "f"
				f.Step()
			}, func() {
				order += "l"
				guard.Must(api.ErrFull)
			})
			order += "b"
		})
		order += "b"
	}) || order != "fl" {
		t.Errorf("%s", order)
	}
}
