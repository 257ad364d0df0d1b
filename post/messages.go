package post

import (
	"cmp"
	"slices"

	"postbag/api"
	"postbag/seqs"
)

func (x *actor) add() error {
	switch {
	case !areFlags(x.Flags) || !isMoment(x.Date):
		return api.ErrRange
	case !isBody(x.Body):
		return api.ErrLong
	}
	return x.put(x.place(x.Name), api.Message{Flags: x.Flags, Date: x.Date, Body: x.Body})
}

func (x *actor) copyOver() error {
	from, to := x.place(x.Name), x.place(x.To)
	if from < 0 || to < 0 {
		return api.ErrNone
	}
	var messages []api.Message
	for _, i := range x.meant(from) {
		messages = append(messages, x.Boxes[from].Messages[i])
	}
	return x.put(to, messages...)
}

func (x *actor) setFlags() error {
	if x.How < api.HowSet || x.How > api.HowRemove || !areFlags(x.Flags) {
		return api.ErrRange
	}
	place := x.place(x.Name)
	for _, i := range x.meant(place) {
		m := &x.Boxes[place].Messages[i]
		m.Flags = seqs.Apply(m.Flags, x.How, x.Flags)
		x.Answer.Uids = append(x.Answer.Uids, m.Uid)
	}
	return nil
}

func (x *actor) expunge() error {
	b := &x.Boxes[x.place(x.Name)]
	for _, m := range those(b.Messages, isDeleted) {
		x.Answer.Uids = append(x.Answer.Uids, m.Uid)
	}
	b.Messages = slices.DeleteFunc(b.Messages, isDeleted)
	return nil
}

func isDeleted(m api.Message) bool { return m.Flags&api.Deleted != 0 }

// put puts messages into a box, each with a new number.
func (x *actor) put(place int, messages ...api.Message) error {
	b := &x.Boxes[place]
	for _, m := range messages {
		m.Uid = b.Next
		b.Next++
		b.Messages = append(b.Messages, m)
		x.Answer.Uids = append(x.Answer.Uids, m.Uid)
	}
	if isOverfull(*b) || b.Next > api.MaxUid {
		return api.ErrFull
	}
	return nil
}

// meant are the places of a box's messages whose numbers stand in the act. Each of these numbers is searched for once: however many they are, they aren't held each against each message.
func (x *actor) meant(place int) []int {
	messages := x.Boxes[place].Messages
	var stands [api.MaxMessages]bool
	for _, uid := range x.Act.Uids {
		i, found := slices.BinarySearchFunc(messages, uid, func(m api.Message, uid int) int { return cmp.Compare(m.Uid, uid) })
		if found {
			stands[i] = true
		}
	}
	var places []int
	for i := range messages {
		if stands[i] {
			places = append(places, i)
		}
	}
	return places
}
