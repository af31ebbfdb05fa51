package broker

import (
	"cordwain/api"
	"cordwain/commits"
	"cordwain/group"
	"cordwain/names"
)

// onGroup answers what is asked of one group.
func (b *Broker) onGroup(r api.Request) (api.Response, api.Errno) {
	if !names.Topic(r.Group) {
		return api.Response{}, api.ErrArg
	}
	if r.Kind == api.ROffset {
		return b.offset(r)
	}
	if r.Kind == api.RJoin {
		return b.join(r)
	}
	g := b.groups[r.Group]
	if g == nil {
		return api.Response{}, api.ErrMember
	}
	x, e := b.ofMember(g, r)
	if raised := b.raise(r.Group, g); raised != api.OK {
		return api.Response{}, raised
	}
	if e != api.OK {
		return api.Response{}, e
	}
	if r.Kind == api.RCommit {
		return api.Response{}, b.commit(r)
	}
	return x, api.OK
}

// ofMember is what the group says to one of its members.
func (b *Broker) ofMember(g *group.Group, r api.Request) (api.Response, api.Errno) {
	var x api.Response
	switch r.Kind {
	case api.RBeat:
		return x, g.Beat(r.Member, r.Gen, b.now)
	case api.RLeave:
		return x, g.Leave(r.Member, b.topics.List(), b.now)
	case api.RCommit:
		return x, g.Fence(r.Member, r.Gen)
	}
	slots, e := g.Sync(r.Member, r.Gen, b.now)
	for _, s := range slots {
		x.Names = append(x.Names, s.Topic)
		x.Nums = append(x.Nums, s.Part)
	}
	return x, e
}

// raise lets the floor of a group be its generation, ahead of all that tells it:
// behind a crash no generation comes again.
func (b *Broker) raise(name string, g *group.Group) api.Errno {
	if !b.risen(name, g) {
		return api.OK
	}
	r, e := commits.GenRecord(name, g.Gen(), b.now)
	if e != api.OK {
		return e
	}
	if e := b.note(r); e != api.OK {
		return e
	}
	return b.table.Gen(name, g.Gen())
}

func (b *Broker) risen(name string, g *group.Group) bool {
	return g.Gen() > b.table.Floor(name)
}

func (b *Broker) join(r api.Request) (api.Response, api.Errno) {
	g := b.groups[r.Group]
	fresh := g == nil
	if fresh {
		if len(b.groups) >= api.MaxGroups {
			return api.Response{}, api.ErrFull
		}
		made, e := group.New(b.c.Session, b.c.Rebalance, b.table.Floor(r.Group), b.c.Round)
		if e != api.OK {
			return api.Response{}, e
		}
		g = made
	}
	id, gen, e := g.Join(r.Member, r.Names, b.topics.List(), b.now)
	if raised := b.raise(r.Group, g); raised != api.OK {
		return api.Response{}, raised
	}
	if fresh && (e == api.OK || e == api.ErrWait) {
		b.groups[r.Group] = g
	}
	if e != api.OK {
		return api.Response{Member: id}, e
	}
	return api.Response{Member: id, Gen: gen, Leader: g.Leader()}, api.OK
}

func (b *Broker) commit(r api.Request) api.Errno {
	if b.Log(r.Topic, r.Part) == nil {
		return api.ErrNone
	}
	entry := commits.Entry{Group: r.Group, Topic: r.Topic, Part: r.Part, Offset: r.Offset}
	one, e := commits.Record(entry, b.now)
	if e != api.OK {
		return e
	}
	if e := b.note(one); e != api.OK {
		return e
	}
	return b.table.Put(entry)
}

func (b *Broker) offset(r api.Request) (api.Response, api.Errno) {
	offset, ok := b.table.Get(r.Group, r.Topic, r.Part)
	if !ok {
		return api.Response{}, api.ErrNone
	}
	return api.Response{Offset: offset}, api.OK
}
