package linear

import (
	"slices"

	"sidings/api"
	"sidings/event"
	"sidings/model"
)

// place is how far an order came, the map there, and which events may be told next; so many of these were tried.
type place struct {
	at      counts
	m       *model.Map
	choices []api.Event
	tried   int
}

// dead are the maps, by the counts, from which no order goes on to the end.
type dead map[counts][]*model.Map

// order tries one event after the other behind what was told, and goes back where none is left.
func (h *history) order() ([]api.Event, bool) {
	var told []api.Event
	places := []place{h.placeOf(counts{}, model.New())}
	ends := dead{}
try:
	here := &places[len(told)]
	if h.isWhole(here.at) {
		return told, true
	}
	if here.tried < len(here.choices) {
		e := here.choices[here.tried]
		here.tried++
		at := here.at.behind(e)
		if m, ok := here.mapBehind(e); ok && !ends.has(at, m) {
			told = append(told, e)
			places = append(places, h.placeOf(at, m))
		}
		goto try
	}
	ends.add(here)
	if len(told) == 0 {
		return nil, false
	}
	last := len(told) - 1
	// Cut off with its room, what is told keeps nothing behind it of what was tried.
	told = told[:last:last]
	places = places[:len(told)+1]
	goto try
}

func (h *history) placeOf(at counts, m *model.Map) place {
	return place{at: at, m: m, choices: h.choices(at, m)}
}

// choices tells which events may be told next. One that changes nothing stands alone, if the map accepts it: whatever is
// told later may be told behind it. Calls that are not answered come last, as they may be left out.
func (h *history) choices(at counts, m *model.Map) []api.Event {
	var answered, open []api.Event
	for thread := range h.calls {
		c, more := h.next(at, thread)
		if !more || !h.isReady(at, c) {
			continue
		}
		if !c.Done {
			open = append(open, h.open(c, m)...)
			continue
		}
		e := eventOf(c, c.Result)
		if changesNothing(e) && m.Try(e.Op, e.Result) {
			return []api.Event{e}
		}
		if own, has := m.Answer(e.Op); !has || own == e.Result {
			answered = append(answered, e)
		}
	}
	return append(answered, open...)
}

// open tells how a call that is not answered may change the map. One that does not may as well be left out.
func (h *history) open(c event.Call, m *model.Map) []api.Event {
	own, has := m.Answer(c.Op)
	if has {
		e := eventOf(c, own)
		if changesNothing(e) {
			return nil
		}
		return []api.Event{e}
	}
	var l []api.Event
	for _, n := range h.guesses {
		l = append(l, eventOf(c, api.Result{N: n}))
	}
	return l
}

// mapBehind tells the map behind an event, and whether it accepts that. Where there is no other choice the place's own
// map goes on, so that calls one after the other take no copy.
func (p *place) mapBehind(e api.Event) (*model.Map, bool) {
	m := p.m
	if p.parts() {
		m = m.Copy()
	}
	return m, m.Try(e.Op, e.Result)
}

// parts tells whether orders part at a place.
func (p *place) parts() bool {
	return len(p.choices) > 1
}

func (d dead) has(at counts, m *model.Map) bool {
	return slices.ContainsFunc(d[at], m.Same)
}

// add leaves out a place of one choice: its map may have gone on, and the place behind that choice tells as much.
func (d dead) add(p *place) {
	if p.parts() {
		d[p.at] = append(d[p.at], p.m)
	}
}

func changesNothing(e api.Event) bool {
	return e.Result.Code != api.OK || e.Op.Do == api.Read
}

// eventOf is what tells a call in an order.
func eventOf(c event.Call, r api.Result) api.Event {
	return api.Event{Thread: c.Thread, Op: c.Op, Result: r}
}
