package post

import (
	"slices"

	"postbag/api"
)

// An actor does an act: on a state of its own, which nobody sees if the act is refused.
type actor struct {
	api.State
	api.Act
	Answer
}

// A deed is what acts of a kind are: what is asked first, as other kinds ask it too, and what they ask and do of their own.
type deed struct {
	asks, does func() error
}

func (x *actor) deeds() map[int]deed {
	return map[int]deed{
		api.ActCreate:      {x.askName, x.create},
		api.ActDelete:      {x.askName, x.remove},
		api.ActRename:      {x.askNames, x.rename},
		api.ActSubscribe:   {x.askName, x.subscribe},
		api.ActUnsubscribe: {x.askName, x.unsubscribe},
		api.ActAppend:      {x.askBox, x.add},
		api.ActCopy:        {x.askNames, x.copyOver},
		api.ActFlags:       {x.askBox, x.setFlags},
		api.ActExpunge:     {x.askBox, x.expunge},
		api.ActQueue:       {x.askDate, x.enqueue},
		api.ActDeliver:     {x.askItem, x.deliver},
		api.ActDefer:       {x.askItem, x.putOff},
		api.ActBounce:      {x.askItem, x.bounce},
	}
}

func (x *actor) act() error {
	d, known := x.deeds()[x.Kind]
	if !known {
		return api.ErrForm
	}
	x.Name, x.To = nameOf(x.Name), nameOf(x.To)
	if err := d.asks(); err != nil {
		return err
	}
	return d.does()
}

// askName asks for the user, and for Name.
func (x *actor) askName() error {
	switch {
	case !x.has(x.User):
		return api.ErrUser
	case x.Name == "":
		return api.ErrName
	}
	return nil
}

// askNames asks for the user, and for Name and To.
func (x *actor) askNames() error {
	if err := x.askName(); err != nil {
		return err
	}
	if x.To == "" {
		return api.ErrName
	}
	return nil
}

// askBox asks for the user, for Name, and for the box of that name.
func (x *actor) askBox() error {
	if err := x.askName(); err != nil {
		return err
	}
	if x.place(x.Name) < 0 {
		return api.ErrNone
	}
	return nil
}

func (x *actor) askDate() error {
	if !isMoment(x.Date) {
		return api.ErrRange
	}
	return nil
}

func (x *actor) askItem() error {
	if x.itemPlace() < 0 {
		return api.ErrNone
	}
	return nil
}

func (x *actor) has(user int) bool { return hasUser(x.State, user) }

// users are all users that there are, rising.
func (x *actor) users() []int {
	var users []int
	for _, b := range x.Boxes {
		if b.Name == inbox {
			users = append(users, b.User)
		}
	}
	return users
}

// place is the place of the user's box of a name.
func (x *actor) place(name string) int { return Find(x.State, x.User, name) }

// itemPlace is the place of the item that the act names.
func (x *actor) itemPlace() int {
	return slices.IndexFunc(x.Queue, func(item api.Item) bool { return item.Id == x.Act.N })
}
