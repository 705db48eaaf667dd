package desk_test

import (
	"fmt"

	"tracery/api"
	"tracery/desk"
	"tracery/script"
)

// The example of README.md.
func Example() {
	vertex := api.Edit{Ops: []api.Op{{Kind: api.AddVertex, ID: api.ID{Site: 1, N: 1}}}}
	s, _ := script.Print([]api.Step{
		{Kind: api.StJoin, Site: 1},
		{Kind: api.StRound},
		{Kind: api.StRound},
		{Kind: api.StEdit, Site: 1, Edit: vertex},
		{Kind: api.StRound},
		{Kind: api.StLook}, // at the server
	})
	text, line, err := desk.Play(2, s)
	fmt.Print(text)
	fmt.Println(line, err)
	// Output:
	// 0 1 0
	// 0 2 0
	// 0 3 0
	// 0 1 0
	// 0 3 0
	// 0 1 0 16 163687947
	// 0 0
}
