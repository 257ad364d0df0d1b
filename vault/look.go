package vault

import (
	"slices"

	"postbag/api"
	"postbag/boxes"
	"postbag/post"
)

// State is the state.
func (v *Vault) State() api.State {
	s := v.state
	s.Boxes = each(s.Boxes, ownBox)
	s.Subs = slices.Clone(s.Subs)
	s.Queue = each(s.Queue, ownItem)
	return s
}

// Box is a user's box.
func (v *Vault) Box(user int, name string) (api.Box, bool) {
	name, err := boxes.Name(name)
	if err != nil {
		return api.Box{}, false
	}
	i := post.Find(v.state, user, name)
	if i < 0 {
		return api.Box{}, false
	}
	return ownBox(v.state.Boxes[i]), true
}

// Message is a box's message.
func (v *Vault) Message(user int, name string, uid int) (api.Message, bool) {
	b, _ := v.Box(user, name)
	i := slices.IndexFunc(b.Messages, func(m api.Message) bool { return m.Uid == uid })
	if i < 0 {
		return api.Message{}, false
	}
	return b.Messages[i], true
}

// ownBox is a box that shares no list with the state's.
func ownBox(b api.Box) api.Box {
	b.Messages = slices.Clone(b.Messages)
	return b
}

// ownItem is an item that shares no list with the state's.
func ownItem(item api.Item) api.Item {
	item.For = slices.Clone(item.For)
	return item
}

// each is a new list of what comes of each of a list.
func each[T any](list []T, change func(T) T) []T {
	changed := slices.Clone(list)
	for i, one := range changed {
		changed[i] = change(one)
	}
	return changed
}
