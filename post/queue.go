package post

import (
	"slices"

	"postbag/api"
)

func (x *actor) enqueue() error {
	there := x.users()
	switch {
	case len(x.From) > maxFrom:
		return api.ErrName
	case len(x.For) == 0 || !all(x.For, func(user int) bool { return slices.Contains(there, user) }):
		return api.ErrUser
	case !isBody(x.Body):
		return api.ErrLong
	case len(x.Queue) == api.MaxQueue || x.NextItem == api.MaxUid:
		return api.ErrFull
	}
	x.queueUp(x.From, those(there, func(user int) bool { return slices.Contains(x.For, user) }))
	return nil
}

// deliver needn't ask whether the user is there: an item waits for users that are.
func (x *actor) deliver() error {
	i := x.itemPlace()
	item := &x.Queue[i]
	waits := slices.Index(item.For, x.User)
	switch {
	case waits < 0:
		return api.ErrNone
	case !isMoment(x.Date):
		return api.ErrRange
	}
	if err := x.put(x.place(inbox), api.Message{Date: x.Date, Body: item.Body}); err != nil {
		return err
	}
	item.For = slices.Delete(item.For, waits, waits+1)
	if len(item.For) == 0 {
		x.drop(i)
	}
	return nil
}

func (x *actor) putOff() error {
	item := &x.Queue[x.itemPlace()]
	if !isMoment(x.Date) || item.Tries == api.MaxTries {
		return api.ErrRange
	}
	item.Tries++
	item.Due = x.Date
	return nil
}

func (x *actor) bounce() error {
	goesBack := x.User >= 0
	switch {
	case !isMoment(x.Date):
		return api.ErrRange
	case goesBack && !x.has(x.User):
		return api.ErrUser
	case !isBody(x.Body):
		return api.ErrLong
	case goesBack && x.NextItem == api.MaxUid:
		return api.ErrFull
	}
	x.drop(x.itemPlace())
	if goesBack {
		x.queueUp("", []int{x.User})
	}
	return nil
}

// queueUp puts a new item at the queue's end.
func (x *actor) queueUp(from string, users []int) {
	x.Queue = append(x.Queue, api.Item{Id: x.NextItem, From: from, For: users, Born: x.Date, Due: x.Date, Body: x.Body})
	x.Answer.N = x.NextItem
	x.NextItem++
}

// drop takes an item out of the queue.
func (x *actor) drop(place int) {
	x.Queue = slices.Delete(x.Queue, place, place+1)
}
