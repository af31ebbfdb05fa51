package broker

import (
	"maps"
	"slices"

	"cordwain/api"
	"cordwain/partlog"
)

// Tick lets time go by.
func (b *Broker) Tick(n int) api.Errno {
	switch {
	case b.none():
		return api.ErrOff
	case n < 0 || n > maxTicks:
		return api.ErrArg
	case b.dead:
		return api.ErrOff
	}
	e := api.OK
tick:
	for left := n; left > 0; left-- {
		idle := min(b.idle(), left-1)
		left -= idle
		b.now += idle + 1
		for name, g := range inOrder(b.groups) {
			g.Tick(b.topics.List(), b.now)
			if e = b.raise(name, g); e != api.OK {
				break tick
			}
		}
		for _, l := range inOrder(b.logs) {
			for _, act := range []func(l *partlog.Log) api.Errno{b.retain, b.clean} {
				if e = act(l); e != api.OK {
					break tick
				}
			}
		}
		if e = b.clean(b.inner); e != api.OK {
			break tick
		}
	}
	return b.told(e)
}

func (b *Broker) retain(l *partlog.Log) api.Errno {
	_, e := l.Retain(b.now)
	return e
}

func (b *Broker) clean(l *partlog.Log) api.Errno {
	_, e := l.Clean(b.now)
	return e
}

// inOrder walks over a map by its keys' bytes.
func inOrder[T any](m map[string]T) func(yield func(string, T) bool) {
	return func(yield func(string, T) bool) {
		for _, key := range slices.Sorted(maps.Keys(m)) {
			if !yield(key, m[key]) {
				return
			}
		}
	}
}

// idle is how many ticks may go by in which nothing has anything to do: these need
// not be gone through one by one.
func (b *Broker) idle() int {
	due := b.inner.Due()
	for _, l := range b.logs {
		due = min(due, l.Due())
	}
	for name, g := range b.groups {
		if b.risen(name, g) {
			return 0
		}
		due = min(due, g.Due())
	}
	return max(due, b.now+1) - b.now - 1
}
