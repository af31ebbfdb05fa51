package broker

import (
	"sort"

	"cordwain/api"
	"cordwain/batch"
	"cordwain/commits"
	"cordwain/partlog"
)

// create makes a topic. What the internal log tells of an older one of this name is
// taken back ahead of that, or a crash would bring it back.
func (b *Broker) create(r api.Request) api.Errno {
	if r.Topic == api.Internal {
		return api.ErrArg
	}
	if e := b.topics.May(r.Topic, r.Part); e != api.OK {
		return e
	}
	for _, entry := range b.stale[r.Topic] {
		gone, e := commits.Gone(entry, b.now)
		if e != api.OK {
			return e
		}
		if e := b.note(gone); e != api.OK {
			return e
		}
	}
	delete(b.stale, r.Topic)
	if e := b.topics.Create(r.Topic, r.Part); e != api.OK {
		return e
	}
	return b.openTopic(r.Topic)
}

// note lets a record stand in the internal log.
func (b *Broker) note(r api.Record) api.Errno {
	_, e := b.inner.Append(api.Batch{Records: []api.Record{r}}, b.now)
	return e
}

// remove lets a topic go, then its logs: Open removes what is left of them.
func (b *Broker) remove(topic string) api.Errno {
	dirs := b.dirs(topic)
	if e := b.topics.Delete(topic); e != api.OK {
		return e
	}
	if gone := b.table.Drop(topic); len(gone) > 0 {
		b.stale[topic] = gone
	}
	for dir := range dirs {
		delete(b.logs, dir)
	}
	for dir := range dirs {
		if e := partlog.Remove(b.d, dir); e != api.OK {
			return e
		}
	}
	return api.OK
}

func (b *Broker) meta() api.Response {
	var x api.Response
	for name, parts := range b.topics.All() {
		x.Names = append(x.Names, name)
		x.Nums = append(x.Nums, parts)
	}
	return x
}

// onLog answers what is asked of one partition.
func (b *Broker) onLog(r api.Request) (api.Response, api.Errno) {
	l := b.Log(r.Topic, r.Part)
	if l == nil {
		return api.Response{}, api.ErrNone
	}
	switch r.Kind {
	case api.RProduce:
		return b.produce(l, r.Data)
	case api.RFetch:
		return fetch(l, r)
	case api.RTrim:
		if e := l.Trim(r.Offset); e != api.OK {
			return api.Response{}, e
		}
		return api.Response{Offset: l.Start()}, api.OK
	}
	return api.Response{Offset: l.FindTime(r.Time), Last: l.End()}, api.OK
}

func (b *Broker) produce(l *partlog.Log, data []byte) (api.Response, api.Errno) {
	one, e := batch.Decode(data)
	if e != api.OK {
		return api.Response{}, e
	}
	base, e := l.Append(one, b.now)
	if e != api.OK {
		return api.Response{}, e
	}
	return api.Response{Offset: base, Last: base + len(one.Records) - 1}, api.OK
}

func fetch(l *partlog.Log, r api.Request) (api.Response, api.Errno) {
	records, e := l.Read(r.Offset, r.Max)
	if e != api.OK {
		return api.Response{}, e
	}
	x := api.Response{Offset: l.Start(), Last: l.End()}
	if len(records) > 0 {
		x.Data, _ = batch.Encode(fitting(records))
	}
	return x, api.OK
}

// fitting is a batch of as many of the first records as one may have.
func fitting(records []api.Record) api.Batch {
	more := sort.Search(len(records)-1, func(i int) bool { // one alone always fits
		return batch.Check(batchOf(records[:i+2])) != api.OK
	})
	return batchOf(records[:more+1])
}

func batchOf(records []api.Record) api.Batch {
	return api.Batch{Base: records[0].Offset, Last: records[len(records)-1].Offset, Records: records}
}

// producer gives a new producer, of 0, or the next epoch of an id. The request that
// gave the id is none that gave it an epoch.
func (b *Broker) producer(id int) (api.Response, api.Errno) {
	switch {
	case id < 0 || id > maxProducer:
		return api.Response{}, api.ErrArg
	case id == 0:
		return b.newProducer()
	}
	epoch, known := b.epochs[id]
	if !known {
		epoch = -1
	}
	for _, l := range b.logs {
		if of, ok := l.Epoch(id); ok {
			epoch = max(epoch, of)
		}
	}
	epoch++
	if epoch > maxEpoch {
		return api.Response{}, api.ErrEpoch
	}
	b.epochs[id] = epoch
	return api.Response{Gen: epoch}, api.OK
}

func (b *Broker) newProducer() (api.Response, api.Errno) {
	id := b.given
	for _, l := range b.logs {
		id = max(id, l.Greatest())
	}
	id++
	if id > maxProducer {
		return api.Response{}, api.ErrOver
	}
	b.given = id
	return api.Response{Offset: id}, api.OK
}
